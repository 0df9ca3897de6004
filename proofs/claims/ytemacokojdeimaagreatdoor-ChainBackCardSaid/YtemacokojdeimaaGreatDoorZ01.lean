/- What the claims of layer 2 share, part 1: several texts one behind the other. -/
import Derived.Test.YtemacokojdeimaaGreatDoorProg
import Derived.WalkKit
import Derived.WalkLawsBesides
import Derived.WalkSpells
import Derived.Lib.Hide
import Derived.Deep.QuietTactic
import Derived.BigQuiet
import Derived.BigRegion
import Derived.Deep.RegionWith
import Derived.Deep.RegionHeld3
import Derived.Deep.RegionLaw
import Derived.Deep.LoopGhost
import Derived.Deep.DeepMust
import Derived.Deep.DeepCutAuto
import Derived.Deep.DeepFit
import Derived.OwnWalk
import Derived.OneCell
import Derived.Deep.AppendLies
import Derived.Deep.OwnRows
import Derived.ProofKit
set_option linter.unusedSimpArgs false
set_option linter.unusedVariables false
/- What walks of this seat share: cells and frames behind calls. -/
namespace Go.Proofs.YtemacokojdeimaaGreatDoor
open Go.RowKit
theorem ret_u64 {a b : Int} (h : a = b) : Ending.returned (.int .u64 a) = .returned (.int .u64 b) := by rw [h]
theorem ret_i64 {a b : Int} (h : a = b) : Ending.returned (.int .i64 a) = .returned (.int .i64 b) := by rw [h]
theorem ret_bool {a b : Bool} (h : a = b) : Ending.returned (.bool a) = .returned (.bool b) := by rw [h]

/-- what a call has not touched, as two rules for the walk -/
theorem bcell {W w1 : World} (hb : Below W.heap.size W w1) : (∀ b o, b < W.heap.size → w1.cell? ⟨b, o, none⟩ = W.cell? ⟨b, o, none⟩) ∧ (∀ b o, b < W.heap.size → w1.frozen? ⟨b, o, none⟩ = W.frozen? ⟨b, o, none⟩) :=
  ⟨fun b o h => hb.cell (p := ⟨b, o, none⟩) h, fun b o h => hb.frozen (p := ⟨b, o, none⟩) h⟩

theorem drewN_below {w : World} (m : Nat) : Below w.heap.size w (w.drewN m) := ⟨rfl, rfl, rfl, Nat.le_refl _, fun _ _ => rfl⟩

theorem kept1 {W W' : World} {p : Addr} {x : Value} (h : W.cell? p = some x) (hb : Below W.heap.size W W') : W'.cell? p = some x := (hb.cell (block_lt_of_cell h)).trans h

theorem keep0 {w W W' : World} (h : Below w.heap.size w W) (hb : Below W.heap.size W W') : Below w.heap.size w W' := h.trans (hb.mono h.size)

theorem keep1 {w W W' : World} {p0 : Addr} {x0 : Value} (h : W.cell? p0 = some x0 ∧ Below w.heap.size w W) (hb : Below W.heap.size W W') : W'.cell? p0 = some x0 ∧ Below w.heap.size w W' := by
  obtain ⟨h0, h⟩ := h
  exact ⟨kept1 h0 hb, h.trans (hb.mono h.size)⟩

theorem keep2 {w W W' : World} {p0 p1 : Addr} {x0 x1 : Value} (h : W.cell? p0 = some x0 ∧ W.cell? p1 = some x1 ∧ Below w.heap.size w W) (hb : Below W.heap.size W W') : W'.cell? p0 = some x0 ∧ W'.cell? p1 = some x1 ∧ Below w.heap.size w W' := by
  obtain ⟨h0, h1, h⟩ := h
  exact ⟨kept1 h0 hb, kept1 h1 hb, h.trans (hb.mono h.size)⟩

theorem keep3 {w W W' : World} {p0 p1 p2 : Addr} {x0 x1 x2 : Value} (h : W.cell? p0 = some x0 ∧ W.cell? p1 = some x1 ∧ W.cell? p2 = some x2 ∧ Below w.heap.size w W) (hb : Below W.heap.size W W') : W'.cell? p0 = some x0 ∧ W'.cell? p1 = some x1 ∧ W'.cell? p2 = some x2 ∧ Below w.heap.size w W' := by
  obtain ⟨h0, h1, h2, h⟩ := h
  exact ⟨kept1 h0 hb, kept1 h1 hb, kept1 h2 hb, h.trans (hb.mono h.size)⟩

theorem keep4 {w W W' : World} {p0 p1 p2 p3 : Addr} {x0 x1 x2 x3 : Value} (h : W.cell? p0 = some x0 ∧ W.cell? p1 = some x1 ∧ W.cell? p2 = some x2 ∧ W.cell? p3 = some x3 ∧ Below w.heap.size w W) (hb : Below W.heap.size W W') : W'.cell? p0 = some x0 ∧ W'.cell? p1 = some x1 ∧ W'.cell? p2 = some x2 ∧ W'.cell? p3 = some x3 ∧ Below w.heap.size w W' := by
  obtain ⟨h0, h1, h2, h3, h⟩ := h
  exact ⟨kept1 h0 hb, kept1 h1 hb, kept1 h2 hb, kept1 h3 hb, h.trans (hb.mono h.size)⟩

theorem keep5 {w W W' : World} {p0 p1 p2 p3 p4 : Addr} {x0 x1 x2 x3 x4 : Value} (h : W.cell? p0 = some x0 ∧ W.cell? p1 = some x1 ∧ W.cell? p2 = some x2 ∧ W.cell? p3 = some x3 ∧ W.cell? p4 = some x4 ∧ Below w.heap.size w W) (hb : Below W.heap.size W W') : W'.cell? p0 = some x0 ∧ W'.cell? p1 = some x1 ∧ W'.cell? p2 = some x2 ∧ W'.cell? p3 = some x3 ∧ W'.cell? p4 = some x4 ∧ Below w.heap.size w W' := by
  obtain ⟨h0, h1, h2, h3, h4, h⟩ := h
  exact ⟨kept1 h0 hb, kept1 h1 hb, kept1 h2 hb, kept1 h3 hb, kept1 h4 hb, h.trans (hb.mono h.size)⟩

theorem keep6 {w W W' : World} {p0 p1 p2 p3 p4 p5 : Addr} {x0 x1 x2 x3 x4 x5 : Value} (h : W.cell? p0 = some x0 ∧ W.cell? p1 = some x1 ∧ W.cell? p2 = some x2 ∧ W.cell? p3 = some x3 ∧ W.cell? p4 = some x4 ∧ W.cell? p5 = some x5 ∧ Below w.heap.size w W) (hb : Below W.heap.size W W') : W'.cell? p0 = some x0 ∧ W'.cell? p1 = some x1 ∧ W'.cell? p2 = some x2 ∧ W'.cell? p3 = some x3 ∧ W'.cell? p4 = some x4 ∧ W'.cell? p5 = some x5 ∧ Below w.heap.size w W' := by
  obtain ⟨h0, h1, h2, h3, h4, h5, h⟩ := h
  exact ⟨kept1 h0 hb, kept1 h1 hb, kept1 h2 hb, kept1 h3 hb, kept1 h4 hb, kept1 h5 hb, h.trans (hb.mono h.size)⟩

theorem keep7 {w W W' : World} {p0 p1 p2 p3 p4 p5 p6 : Addr} {x0 x1 x2 x3 x4 x5 x6 : Value} (h : W.cell? p0 = some x0 ∧ W.cell? p1 = some x1 ∧ W.cell? p2 = some x2 ∧ W.cell? p3 = some x3 ∧ W.cell? p4 = some x4 ∧ W.cell? p5 = some x5 ∧ W.cell? p6 = some x6 ∧ Below w.heap.size w W) (hb : Below W.heap.size W W') : W'.cell? p0 = some x0 ∧ W'.cell? p1 = some x1 ∧ W'.cell? p2 = some x2 ∧ W'.cell? p3 = some x3 ∧ W'.cell? p4 = some x4 ∧ W'.cell? p5 = some x5 ∧ W'.cell? p6 = some x6 ∧ Below w.heap.size w W' := by
  obtain ⟨h0, h1, h2, h3, h4, h5, h6, h⟩ := h
  exact ⟨kept1 h0 hb, kept1 h1 hb, kept1 h2 hb, kept1 h3 hb, kept1 h4 hb, kept1 h5 hb, kept1 h6 hb, h.trans (hb.mono h.size)⟩

theorem keep8 {w W W' : World} {p0 p1 p2 p3 p4 p5 p6 p7 : Addr} {x0 x1 x2 x3 x4 x5 x6 x7 : Value} (h : W.cell? p0 = some x0 ∧ W.cell? p1 = some x1 ∧ W.cell? p2 = some x2 ∧ W.cell? p3 = some x3 ∧ W.cell? p4 = some x4 ∧ W.cell? p5 = some x5 ∧ W.cell? p6 = some x6 ∧ W.cell? p7 = some x7 ∧ Below w.heap.size w W) (hb : Below W.heap.size W W') : W'.cell? p0 = some x0 ∧ W'.cell? p1 = some x1 ∧ W'.cell? p2 = some x2 ∧ W'.cell? p3 = some x3 ∧ W'.cell? p4 = some x4 ∧ W'.cell? p5 = some x5 ∧ W'.cell? p6 = some x6 ∧ W'.cell? p7 = some x7 ∧ Below w.heap.size w W' := by
  obtain ⟨h0, h1, h2, h3, h4, h5, h6, h7, h⟩ := h
  exact ⟨kept1 h0 hb, kept1 h1 hb, kept1 h2 hb, kept1 h3 hb, kept1 h4 hb, kept1 h5 hb, kept1 h6 hb, kept1 h7 hb, h.trans (hb.mono h.size)⟩

theorem keep9 {w W W' : World} {p0 p1 p2 p3 p4 p5 p6 p7 p8 : Addr} {x0 x1 x2 x3 x4 x5 x6 x7 x8 : Value} (h : W.cell? p0 = some x0 ∧ W.cell? p1 = some x1 ∧ W.cell? p2 = some x2 ∧ W.cell? p3 = some x3 ∧ W.cell? p4 = some x4 ∧ W.cell? p5 = some x5 ∧ W.cell? p6 = some x6 ∧ W.cell? p7 = some x7 ∧ W.cell? p8 = some x8 ∧ Below w.heap.size w W) (hb : Below W.heap.size W W') : W'.cell? p0 = some x0 ∧ W'.cell? p1 = some x1 ∧ W'.cell? p2 = some x2 ∧ W'.cell? p3 = some x3 ∧ W'.cell? p4 = some x4 ∧ W'.cell? p5 = some x5 ∧ W'.cell? p6 = some x6 ∧ W'.cell? p7 = some x7 ∧ W'.cell? p8 = some x8 ∧ Below w.heap.size w W' := by
  obtain ⟨h0, h1, h2, h3, h4, h5, h6, h7, h8, h⟩ := h
  exact ⟨kept1 h0 hb, kept1 h1 hb, kept1 h2 hb, kept1 h3 hb, kept1 h4 hb, kept1 h5 hb, kept1 h6 hb, kept1 h7 hb, kept1 h8 hb, h.trans (hb.mono h.size)⟩

theorem keep10 {w W W' : World} {p0 p1 p2 p3 p4 p5 p6 p7 p8 p9 : Addr} {x0 x1 x2 x3 x4 x5 x6 x7 x8 x9 : Value} (h : W.cell? p0 = some x0 ∧ W.cell? p1 = some x1 ∧ W.cell? p2 = some x2 ∧ W.cell? p3 = some x3 ∧ W.cell? p4 = some x4 ∧ W.cell? p5 = some x5 ∧ W.cell? p6 = some x6 ∧ W.cell? p7 = some x7 ∧ W.cell? p8 = some x8 ∧ W.cell? p9 = some x9 ∧ Below w.heap.size w W) (hb : Below W.heap.size W W') : W'.cell? p0 = some x0 ∧ W'.cell? p1 = some x1 ∧ W'.cell? p2 = some x2 ∧ W'.cell? p3 = some x3 ∧ W'.cell? p4 = some x4 ∧ W'.cell? p5 = some x5 ∧ W'.cell? p6 = some x6 ∧ W'.cell? p7 = some x7 ∧ W'.cell? p8 = some x8 ∧ W'.cell? p9 = some x9 ∧ Below w.heap.size w W' := by
  obtain ⟨h0, h1, h2, h3, h4, h5, h6, h7, h8, h9, h⟩ := h
  exact ⟨kept1 h0 hb, kept1 h1 hb, kept1 h2 hb, kept1 h3 hb, kept1 h4 hb, kept1 h5 hb, kept1 h6 hb, kept1 h7 hb, kept1 h8 hb, kept1 h9 hb, h.trans (hb.mono h.size)⟩

theorem keep11 {w W W' : World} {p0 p1 p2 p3 p4 p5 p6 p7 p8 p9 p10 : Addr} {x0 x1 x2 x3 x4 x5 x6 x7 x8 x9 x10 : Value} (h : W.cell? p0 = some x0 ∧ W.cell? p1 = some x1 ∧ W.cell? p2 = some x2 ∧ W.cell? p3 = some x3 ∧ W.cell? p4 = some x4 ∧ W.cell? p5 = some x5 ∧ W.cell? p6 = some x6 ∧ W.cell? p7 = some x7 ∧ W.cell? p8 = some x8 ∧ W.cell? p9 = some x9 ∧ W.cell? p10 = some x10 ∧ Below w.heap.size w W) (hb : Below W.heap.size W W') : W'.cell? p0 = some x0 ∧ W'.cell? p1 = some x1 ∧ W'.cell? p2 = some x2 ∧ W'.cell? p3 = some x3 ∧ W'.cell? p4 = some x4 ∧ W'.cell? p5 = some x5 ∧ W'.cell? p6 = some x6 ∧ W'.cell? p7 = some x7 ∧ W'.cell? p8 = some x8 ∧ W'.cell? p9 = some x9 ∧ W'.cell? p10 = some x10 ∧ Below w.heap.size w W' := by
  obtain ⟨h0, h1, h2, h3, h4, h5, h6, h7, h8, h9, h10, h⟩ := h
  exact ⟨kept1 h0 hb, kept1 h1 hb, kept1 h2 hb, kept1 h3 hb, kept1 h4 hb, kept1 h5 hb, kept1 h6 hb, kept1 h7 hb, kept1 h8 hb, kept1 h9 hb, kept1 h10 hb, h.trans (hb.mono h.size)⟩

theorem keep12 {w W W' : World} {p0 p1 p2 p3 p4 p5 p6 p7 p8 p9 p10 p11 : Addr} {x0 x1 x2 x3 x4 x5 x6 x7 x8 x9 x10 x11 : Value} (h : W.cell? p0 = some x0 ∧ W.cell? p1 = some x1 ∧ W.cell? p2 = some x2 ∧ W.cell? p3 = some x3 ∧ W.cell? p4 = some x4 ∧ W.cell? p5 = some x5 ∧ W.cell? p6 = some x6 ∧ W.cell? p7 = some x7 ∧ W.cell? p8 = some x8 ∧ W.cell? p9 = some x9 ∧ W.cell? p10 = some x10 ∧ W.cell? p11 = some x11 ∧ Below w.heap.size w W) (hb : Below W.heap.size W W') : W'.cell? p0 = some x0 ∧ W'.cell? p1 = some x1 ∧ W'.cell? p2 = some x2 ∧ W'.cell? p3 = some x3 ∧ W'.cell? p4 = some x4 ∧ W'.cell? p5 = some x5 ∧ W'.cell? p6 = some x6 ∧ W'.cell? p7 = some x7 ∧ W'.cell? p8 = some x8 ∧ W'.cell? p9 = some x9 ∧ W'.cell? p10 = some x10 ∧ W'.cell? p11 = some x11 ∧ Below w.heap.size w W' := by
  obtain ⟨h0, h1, h2, h3, h4, h5, h6, h7, h8, h9, h10, h11, h⟩ := h
  exact ⟨kept1 h0 hb, kept1 h1 hb, kept1 h2 hb, kept1 h3 hb, kept1 h4 hb, kept1 h5 hb, kept1 h6 hb, kept1 h7 hb, kept1 h8 hb, kept1 h9 hb, kept1 h10 hb, kept1 h11 hb, h.trans (hb.mono h.size)⟩

theorem keep13 {w W W' : World} {p0 p1 p2 p3 p4 p5 p6 p7 p8 p9 p10 p11 p12 : Addr} {x0 x1 x2 x3 x4 x5 x6 x7 x8 x9 x10 x11 x12 : Value} (h : W.cell? p0 = some x0 ∧ W.cell? p1 = some x1 ∧ W.cell? p2 = some x2 ∧ W.cell? p3 = some x3 ∧ W.cell? p4 = some x4 ∧ W.cell? p5 = some x5 ∧ W.cell? p6 = some x6 ∧ W.cell? p7 = some x7 ∧ W.cell? p8 = some x8 ∧ W.cell? p9 = some x9 ∧ W.cell? p10 = some x10 ∧ W.cell? p11 = some x11 ∧ W.cell? p12 = some x12 ∧ Below w.heap.size w W) (hb : Below W.heap.size W W') : W'.cell? p0 = some x0 ∧ W'.cell? p1 = some x1 ∧ W'.cell? p2 = some x2 ∧ W'.cell? p3 = some x3 ∧ W'.cell? p4 = some x4 ∧ W'.cell? p5 = some x5 ∧ W'.cell? p6 = some x6 ∧ W'.cell? p7 = some x7 ∧ W'.cell? p8 = some x8 ∧ W'.cell? p9 = some x9 ∧ W'.cell? p10 = some x10 ∧ W'.cell? p11 = some x11 ∧ W'.cell? p12 = some x12 ∧ Below w.heap.size w W' := by
  obtain ⟨h0, h1, h2, h3, h4, h5, h6, h7, h8, h9, h10, h11, h12, h⟩ := h
  exact ⟨kept1 h0 hb, kept1 h1 hb, kept1 h2 hb, kept1 h3 hb, kept1 h4 hb, kept1 h5 hb, kept1 h6 hb, kept1 h7 hb, kept1 h8 hb, kept1 h9 hb, kept1 h10 hb, kept1 h11 hb, kept1 h12 hb, h.trans (hb.mono h.size)⟩

theorem keep14 {w W W' : World} {p0 p1 p2 p3 p4 p5 p6 p7 p8 p9 p10 p11 p12 p13 : Addr} {x0 x1 x2 x3 x4 x5 x6 x7 x8 x9 x10 x11 x12 x13 : Value} (h : W.cell? p0 = some x0 ∧ W.cell? p1 = some x1 ∧ W.cell? p2 = some x2 ∧ W.cell? p3 = some x3 ∧ W.cell? p4 = some x4 ∧ W.cell? p5 = some x5 ∧ W.cell? p6 = some x6 ∧ W.cell? p7 = some x7 ∧ W.cell? p8 = some x8 ∧ W.cell? p9 = some x9 ∧ W.cell? p10 = some x10 ∧ W.cell? p11 = some x11 ∧ W.cell? p12 = some x12 ∧ W.cell? p13 = some x13 ∧ Below w.heap.size w W) (hb : Below W.heap.size W W') : W'.cell? p0 = some x0 ∧ W'.cell? p1 = some x1 ∧ W'.cell? p2 = some x2 ∧ W'.cell? p3 = some x3 ∧ W'.cell? p4 = some x4 ∧ W'.cell? p5 = some x5 ∧ W'.cell? p6 = some x6 ∧ W'.cell? p7 = some x7 ∧ W'.cell? p8 = some x8 ∧ W'.cell? p9 = some x9 ∧ W'.cell? p10 = some x10 ∧ W'.cell? p11 = some x11 ∧ W'.cell? p12 = some x12 ∧ W'.cell? p13 = some x13 ∧ Below w.heap.size w W' := by
  obtain ⟨h0, h1, h2, h3, h4, h5, h6, h7, h8, h9, h10, h11, h12, h13, h⟩ := h
  exact ⟨kept1 h0 hb, kept1 h1 hb, kept1 h2 hb, kept1 h3 hb, kept1 h4 hb, kept1 h5 hb, kept1 h6 hb, kept1 h7 hb, kept1 h8 hb, kept1 h9 hb, kept1 h10 hb, kept1 h11 hb, kept1 h12 hb, kept1 h13 hb, h.trans (hb.mono h.size)⟩

theorem keep15 {w W W' : World} {p0 p1 p2 p3 p4 p5 p6 p7 p8 p9 p10 p11 p12 p13 p14 : Addr} {x0 x1 x2 x3 x4 x5 x6 x7 x8 x9 x10 x11 x12 x13 x14 : Value} (h : W.cell? p0 = some x0 ∧ W.cell? p1 = some x1 ∧ W.cell? p2 = some x2 ∧ W.cell? p3 = some x3 ∧ W.cell? p4 = some x4 ∧ W.cell? p5 = some x5 ∧ W.cell? p6 = some x6 ∧ W.cell? p7 = some x7 ∧ W.cell? p8 = some x8 ∧ W.cell? p9 = some x9 ∧ W.cell? p10 = some x10 ∧ W.cell? p11 = some x11 ∧ W.cell? p12 = some x12 ∧ W.cell? p13 = some x13 ∧ W.cell? p14 = some x14 ∧ Below w.heap.size w W) (hb : Below W.heap.size W W') : W'.cell? p0 = some x0 ∧ W'.cell? p1 = some x1 ∧ W'.cell? p2 = some x2 ∧ W'.cell? p3 = some x3 ∧ W'.cell? p4 = some x4 ∧ W'.cell? p5 = some x5 ∧ W'.cell? p6 = some x6 ∧ W'.cell? p7 = some x7 ∧ W'.cell? p8 = some x8 ∧ W'.cell? p9 = some x9 ∧ W'.cell? p10 = some x10 ∧ W'.cell? p11 = some x11 ∧ W'.cell? p12 = some x12 ∧ W'.cell? p13 = some x13 ∧ W'.cell? p14 = some x14 ∧ Below w.heap.size w W' := by
  obtain ⟨h0, h1, h2, h3, h4, h5, h6, h7, h8, h9, h10, h11, h12, h13, h14, h⟩ := h
  exact ⟨kept1 h0 hb, kept1 h1 hb, kept1 h2 hb, kept1 h3 hb, kept1 h4 hb, kept1 h5 hb, kept1 h6 hb, kept1 h7 hb, kept1 h8 hb, kept1 h9 hb, kept1 h10 hb, kept1 h11 hb, kept1 h12 hb, kept1 h13 hb, kept1 h14 hb, h.trans (hb.mono h.size)⟩

theorem keep16 {w W W' : World} {p0 p1 p2 p3 p4 p5 p6 p7 p8 p9 p10 p11 p12 p13 p14 p15 : Addr} {x0 x1 x2 x3 x4 x5 x6 x7 x8 x9 x10 x11 x12 x13 x14 x15 : Value} (h : W.cell? p0 = some x0 ∧ W.cell? p1 = some x1 ∧ W.cell? p2 = some x2 ∧ W.cell? p3 = some x3 ∧ W.cell? p4 = some x4 ∧ W.cell? p5 = some x5 ∧ W.cell? p6 = some x6 ∧ W.cell? p7 = some x7 ∧ W.cell? p8 = some x8 ∧ W.cell? p9 = some x9 ∧ W.cell? p10 = some x10 ∧ W.cell? p11 = some x11 ∧ W.cell? p12 = some x12 ∧ W.cell? p13 = some x13 ∧ W.cell? p14 = some x14 ∧ W.cell? p15 = some x15 ∧ Below w.heap.size w W) (hb : Below W.heap.size W W') : W'.cell? p0 = some x0 ∧ W'.cell? p1 = some x1 ∧ W'.cell? p2 = some x2 ∧ W'.cell? p3 = some x3 ∧ W'.cell? p4 = some x4 ∧ W'.cell? p5 = some x5 ∧ W'.cell? p6 = some x6 ∧ W'.cell? p7 = some x7 ∧ W'.cell? p8 = some x8 ∧ W'.cell? p9 = some x9 ∧ W'.cell? p10 = some x10 ∧ W'.cell? p11 = some x11 ∧ W'.cell? p12 = some x12 ∧ W'.cell? p13 = some x13 ∧ W'.cell? p14 = some x14 ∧ W'.cell? p15 = some x15 ∧ Below w.heap.size w W' := by
  obtain ⟨h0, h1, h2, h3, h4, h5, h6, h7, h8, h9, h10, h11, h12, h13, h14, h15, h⟩ := h
  exact ⟨kept1 h0 hb, kept1 h1 hb, kept1 h2 hb, kept1 h3 hb, kept1 h4 hb, kept1 h5 hb, kept1 h6 hb, kept1 h7 hb, kept1 h8 hb, kept1 h9 hb, kept1 h10 hb, kept1 h11 hb, kept1 h12 hb, kept1 h13 hb, kept1 h14 hb, kept1 h15 hb, h.trans (hb.mono h.size)⟩

theorem keep17 {w W W' : World} {p0 p1 p2 p3 p4 p5 p6 p7 p8 p9 p10 p11 p12 p13 p14 p15 p16 : Addr} {x0 x1 x2 x3 x4 x5 x6 x7 x8 x9 x10 x11 x12 x13 x14 x15 x16 : Value} (h : W.cell? p0 = some x0 ∧ W.cell? p1 = some x1 ∧ W.cell? p2 = some x2 ∧ W.cell? p3 = some x3 ∧ W.cell? p4 = some x4 ∧ W.cell? p5 = some x5 ∧ W.cell? p6 = some x6 ∧ W.cell? p7 = some x7 ∧ W.cell? p8 = some x8 ∧ W.cell? p9 = some x9 ∧ W.cell? p10 = some x10 ∧ W.cell? p11 = some x11 ∧ W.cell? p12 = some x12 ∧ W.cell? p13 = some x13 ∧ W.cell? p14 = some x14 ∧ W.cell? p15 = some x15 ∧ W.cell? p16 = some x16 ∧ Below w.heap.size w W) (hb : Below W.heap.size W W') : W'.cell? p0 = some x0 ∧ W'.cell? p1 = some x1 ∧ W'.cell? p2 = some x2 ∧ W'.cell? p3 = some x3 ∧ W'.cell? p4 = some x4 ∧ W'.cell? p5 = some x5 ∧ W'.cell? p6 = some x6 ∧ W'.cell? p7 = some x7 ∧ W'.cell? p8 = some x8 ∧ W'.cell? p9 = some x9 ∧ W'.cell? p10 = some x10 ∧ W'.cell? p11 = some x11 ∧ W'.cell? p12 = some x12 ∧ W'.cell? p13 = some x13 ∧ W'.cell? p14 = some x14 ∧ W'.cell? p15 = some x15 ∧ W'.cell? p16 = some x16 ∧ Below w.heap.size w W' := by
  obtain ⟨h0, h1, h2, h3, h4, h5, h6, h7, h8, h9, h10, h11, h12, h13, h14, h15, h16, h⟩ := h
  exact ⟨kept1 h0 hb, kept1 h1 hb, kept1 h2 hb, kept1 h3 hb, kept1 h4 hb, kept1 h5 hb, kept1 h6 hb, kept1 h7 hb, kept1 h8 hb, kept1 h9 hb, kept1 h10 hb, kept1 h11 hb, kept1 h12 hb, kept1 h13 hb, kept1 h14 hb, kept1 h15 hb, kept1 h16 hb, h.trans (hb.mono h.size)⟩

theorem keep18 {w W W' : World} {p0 p1 p2 p3 p4 p5 p6 p7 p8 p9 p10 p11 p12 p13 p14 p15 p16 p17 : Addr} {x0 x1 x2 x3 x4 x5 x6 x7 x8 x9 x10 x11 x12 x13 x14 x15 x16 x17 : Value} (h : W.cell? p0 = some x0 ∧ W.cell? p1 = some x1 ∧ W.cell? p2 = some x2 ∧ W.cell? p3 = some x3 ∧ W.cell? p4 = some x4 ∧ W.cell? p5 = some x5 ∧ W.cell? p6 = some x6 ∧ W.cell? p7 = some x7 ∧ W.cell? p8 = some x8 ∧ W.cell? p9 = some x9 ∧ W.cell? p10 = some x10 ∧ W.cell? p11 = some x11 ∧ W.cell? p12 = some x12 ∧ W.cell? p13 = some x13 ∧ W.cell? p14 = some x14 ∧ W.cell? p15 = some x15 ∧ W.cell? p16 = some x16 ∧ W.cell? p17 = some x17 ∧ Below w.heap.size w W) (hb : Below W.heap.size W W') : W'.cell? p0 = some x0 ∧ W'.cell? p1 = some x1 ∧ W'.cell? p2 = some x2 ∧ W'.cell? p3 = some x3 ∧ W'.cell? p4 = some x4 ∧ W'.cell? p5 = some x5 ∧ W'.cell? p6 = some x6 ∧ W'.cell? p7 = some x7 ∧ W'.cell? p8 = some x8 ∧ W'.cell? p9 = some x9 ∧ W'.cell? p10 = some x10 ∧ W'.cell? p11 = some x11 ∧ W'.cell? p12 = some x12 ∧ W'.cell? p13 = some x13 ∧ W'.cell? p14 = some x14 ∧ W'.cell? p15 = some x15 ∧ W'.cell? p16 = some x16 ∧ W'.cell? p17 = some x17 ∧ Below w.heap.size w W' := by
  obtain ⟨h0, h1, h2, h3, h4, h5, h6, h7, h8, h9, h10, h11, h12, h13, h14, h15, h16, h17, h⟩ := h
  exact ⟨kept1 h0 hb, kept1 h1 hb, kept1 h2 hb, kept1 h3 hb, kept1 h4 hb, kept1 h5 hb, kept1 h6 hb, kept1 h7 hb, kept1 h8 hb, kept1 h9 hb, kept1 h10 hb, kept1 h11 hb, kept1 h12 hb, kept1 h13 hb, kept1 h14 hb, kept1 h15 hb, kept1 h16 hb, kept1 h17 hb, h.trans (hb.mono h.size)⟩

theorem keep19 {w W W' : World} {p0 p1 p2 p3 p4 p5 p6 p7 p8 p9 p10 p11 p12 p13 p14 p15 p16 p17 p18 : Addr} {x0 x1 x2 x3 x4 x5 x6 x7 x8 x9 x10 x11 x12 x13 x14 x15 x16 x17 x18 : Value} (h : W.cell? p0 = some x0 ∧ W.cell? p1 = some x1 ∧ W.cell? p2 = some x2 ∧ W.cell? p3 = some x3 ∧ W.cell? p4 = some x4 ∧ W.cell? p5 = some x5 ∧ W.cell? p6 = some x6 ∧ W.cell? p7 = some x7 ∧ W.cell? p8 = some x8 ∧ W.cell? p9 = some x9 ∧ W.cell? p10 = some x10 ∧ W.cell? p11 = some x11 ∧ W.cell? p12 = some x12 ∧ W.cell? p13 = some x13 ∧ W.cell? p14 = some x14 ∧ W.cell? p15 = some x15 ∧ W.cell? p16 = some x16 ∧ W.cell? p17 = some x17 ∧ W.cell? p18 = some x18 ∧ Below w.heap.size w W) (hb : Below W.heap.size W W') : W'.cell? p0 = some x0 ∧ W'.cell? p1 = some x1 ∧ W'.cell? p2 = some x2 ∧ W'.cell? p3 = some x3 ∧ W'.cell? p4 = some x4 ∧ W'.cell? p5 = some x5 ∧ W'.cell? p6 = some x6 ∧ W'.cell? p7 = some x7 ∧ W'.cell? p8 = some x8 ∧ W'.cell? p9 = some x9 ∧ W'.cell? p10 = some x10 ∧ W'.cell? p11 = some x11 ∧ W'.cell? p12 = some x12 ∧ W'.cell? p13 = some x13 ∧ W'.cell? p14 = some x14 ∧ W'.cell? p15 = some x15 ∧ W'.cell? p16 = some x16 ∧ W'.cell? p17 = some x17 ∧ W'.cell? p18 = some x18 ∧ Below w.heap.size w W' := by
  obtain ⟨h0, h1, h2, h3, h4, h5, h6, h7, h8, h9, h10, h11, h12, h13, h14, h15, h16, h17, h18, h⟩ := h
  exact ⟨kept1 h0 hb, kept1 h1 hb, kept1 h2 hb, kept1 h3 hb, kept1 h4 hb, kept1 h5 hb, kept1 h6 hb, kept1 h7 hb, kept1 h8 hb, kept1 h9 hb, kept1 h10 hb, kept1 h11 hb, kept1 h12 hb, kept1 h13 hb, kept1 h14 hb, kept1 h15 hb, kept1 h16 hb, kept1 h17 hb, kept1 h18 hb, h.trans (hb.mono h.size)⟩

theorem keep20 {w W W' : World} {p0 p1 p2 p3 p4 p5 p6 p7 p8 p9 p10 p11 p12 p13 p14 p15 p16 p17 p18 p19 : Addr} {x0 x1 x2 x3 x4 x5 x6 x7 x8 x9 x10 x11 x12 x13 x14 x15 x16 x17 x18 x19 : Value} (h : W.cell? p0 = some x0 ∧ W.cell? p1 = some x1 ∧ W.cell? p2 = some x2 ∧ W.cell? p3 = some x3 ∧ W.cell? p4 = some x4 ∧ W.cell? p5 = some x5 ∧ W.cell? p6 = some x6 ∧ W.cell? p7 = some x7 ∧ W.cell? p8 = some x8 ∧ W.cell? p9 = some x9 ∧ W.cell? p10 = some x10 ∧ W.cell? p11 = some x11 ∧ W.cell? p12 = some x12 ∧ W.cell? p13 = some x13 ∧ W.cell? p14 = some x14 ∧ W.cell? p15 = some x15 ∧ W.cell? p16 = some x16 ∧ W.cell? p17 = some x17 ∧ W.cell? p18 = some x18 ∧ W.cell? p19 = some x19 ∧ Below w.heap.size w W) (hb : Below W.heap.size W W') : W'.cell? p0 = some x0 ∧ W'.cell? p1 = some x1 ∧ W'.cell? p2 = some x2 ∧ W'.cell? p3 = some x3 ∧ W'.cell? p4 = some x4 ∧ W'.cell? p5 = some x5 ∧ W'.cell? p6 = some x6 ∧ W'.cell? p7 = some x7 ∧ W'.cell? p8 = some x8 ∧ W'.cell? p9 = some x9 ∧ W'.cell? p10 = some x10 ∧ W'.cell? p11 = some x11 ∧ W'.cell? p12 = some x12 ∧ W'.cell? p13 = some x13 ∧ W'.cell? p14 = some x14 ∧ W'.cell? p15 = some x15 ∧ W'.cell? p16 = some x16 ∧ W'.cell? p17 = some x17 ∧ W'.cell? p18 = some x18 ∧ W'.cell? p19 = some x19 ∧ Below w.heap.size w W' := by
  obtain ⟨h0, h1, h2, h3, h4, h5, h6, h7, h8, h9, h10, h11, h12, h13, h14, h15, h16, h17, h18, h19, h⟩ := h
  exact ⟨kept1 h0 hb, kept1 h1 hb, kept1 h2 hb, kept1 h3 hb, kept1 h4 hb, kept1 h5 hb, kept1 h6 hb, kept1 h7 hb, kept1 h8 hb, kept1 h9 hb, kept1 h10 hb, kept1 h11 hb, kept1 h12 hb, kept1 h13 hb, kept1 h14 hb, kept1 h15 hb, kept1 h16 hb, kept1 h17 hb, kept1 h18 hb, kept1 h19 hb, h.trans (hb.mono h.size)⟩

theorem keep21 {w W W' : World} {p0 p1 p2 p3 p4 p5 p6 p7 p8 p9 p10 p11 p12 p13 p14 p15 p16 p17 p18 p19 p20 : Addr} {x0 x1 x2 x3 x4 x5 x6 x7 x8 x9 x10 x11 x12 x13 x14 x15 x16 x17 x18 x19 x20 : Value} (h : W.cell? p0 = some x0 ∧ W.cell? p1 = some x1 ∧ W.cell? p2 = some x2 ∧ W.cell? p3 = some x3 ∧ W.cell? p4 = some x4 ∧ W.cell? p5 = some x5 ∧ W.cell? p6 = some x6 ∧ W.cell? p7 = some x7 ∧ W.cell? p8 = some x8 ∧ W.cell? p9 = some x9 ∧ W.cell? p10 = some x10 ∧ W.cell? p11 = some x11 ∧ W.cell? p12 = some x12 ∧ W.cell? p13 = some x13 ∧ W.cell? p14 = some x14 ∧ W.cell? p15 = some x15 ∧ W.cell? p16 = some x16 ∧ W.cell? p17 = some x17 ∧ W.cell? p18 = some x18 ∧ W.cell? p19 = some x19 ∧ W.cell? p20 = some x20 ∧ Below w.heap.size w W) (hb : Below W.heap.size W W') : W'.cell? p0 = some x0 ∧ W'.cell? p1 = some x1 ∧ W'.cell? p2 = some x2 ∧ W'.cell? p3 = some x3 ∧ W'.cell? p4 = some x4 ∧ W'.cell? p5 = some x5 ∧ W'.cell? p6 = some x6 ∧ W'.cell? p7 = some x7 ∧ W'.cell? p8 = some x8 ∧ W'.cell? p9 = some x9 ∧ W'.cell? p10 = some x10 ∧ W'.cell? p11 = some x11 ∧ W'.cell? p12 = some x12 ∧ W'.cell? p13 = some x13 ∧ W'.cell? p14 = some x14 ∧ W'.cell? p15 = some x15 ∧ W'.cell? p16 = some x16 ∧ W'.cell? p17 = some x17 ∧ W'.cell? p18 = some x18 ∧ W'.cell? p19 = some x19 ∧ W'.cell? p20 = some x20 ∧ Below w.heap.size w W' := by
  obtain ⟨h0, h1, h2, h3, h4, h5, h6, h7, h8, h9, h10, h11, h12, h13, h14, h15, h16, h17, h18, h19, h20, h⟩ := h
  exact ⟨kept1 h0 hb, kept1 h1 hb, kept1 h2 hb, kept1 h3 hb, kept1 h4 hb, kept1 h5 hb, kept1 h6 hb, kept1 h7 hb, kept1 h8 hb, kept1 h9 hb, kept1 h10 hb, kept1 h11 hb, kept1 h12 hb, kept1 h13 hb, kept1 h14 hb, kept1 h15 hb, kept1 h16 hb, kept1 h17 hb, kept1 h18 hb, kept1 h19 hb, kept1 h20 hb, h.trans (hb.mono h.size)⟩

theorem keep22 {w W W' : World} {p0 p1 p2 p3 p4 p5 p6 p7 p8 p9 p10 p11 p12 p13 p14 p15 p16 p17 p18 p19 p20 p21 : Addr} {x0 x1 x2 x3 x4 x5 x6 x7 x8 x9 x10 x11 x12 x13 x14 x15 x16 x17 x18 x19 x20 x21 : Value} (h : W.cell? p0 = some x0 ∧ W.cell? p1 = some x1 ∧ W.cell? p2 = some x2 ∧ W.cell? p3 = some x3 ∧ W.cell? p4 = some x4 ∧ W.cell? p5 = some x5 ∧ W.cell? p6 = some x6 ∧ W.cell? p7 = some x7 ∧ W.cell? p8 = some x8 ∧ W.cell? p9 = some x9 ∧ W.cell? p10 = some x10 ∧ W.cell? p11 = some x11 ∧ W.cell? p12 = some x12 ∧ W.cell? p13 = some x13 ∧ W.cell? p14 = some x14 ∧ W.cell? p15 = some x15 ∧ W.cell? p16 = some x16 ∧ W.cell? p17 = some x17 ∧ W.cell? p18 = some x18 ∧ W.cell? p19 = some x19 ∧ W.cell? p20 = some x20 ∧ W.cell? p21 = some x21 ∧ Below w.heap.size w W) (hb : Below W.heap.size W W') : W'.cell? p0 = some x0 ∧ W'.cell? p1 = some x1 ∧ W'.cell? p2 = some x2 ∧ W'.cell? p3 = some x3 ∧ W'.cell? p4 = some x4 ∧ W'.cell? p5 = some x5 ∧ W'.cell? p6 = some x6 ∧ W'.cell? p7 = some x7 ∧ W'.cell? p8 = some x8 ∧ W'.cell? p9 = some x9 ∧ W'.cell? p10 = some x10 ∧ W'.cell? p11 = some x11 ∧ W'.cell? p12 = some x12 ∧ W'.cell? p13 = some x13 ∧ W'.cell? p14 = some x14 ∧ W'.cell? p15 = some x15 ∧ W'.cell? p16 = some x16 ∧ W'.cell? p17 = some x17 ∧ W'.cell? p18 = some x18 ∧ W'.cell? p19 = some x19 ∧ W'.cell? p20 = some x20 ∧ W'.cell? p21 = some x21 ∧ Below w.heap.size w W' := by
  obtain ⟨h0, h1, h2, h3, h4, h5, h6, h7, h8, h9, h10, h11, h12, h13, h14, h15, h16, h17, h18, h19, h20, h21, h⟩ := h
  exact ⟨kept1 h0 hb, kept1 h1 hb, kept1 h2 hb, kept1 h3 hb, kept1 h4 hb, kept1 h5 hb, kept1 h6 hb, kept1 h7 hb, kept1 h8 hb, kept1 h9 hb, kept1 h10 hb, kept1 h11 hb, kept1 h12 hb, kept1 h13 hb, kept1 h14 hb, kept1 h15 hb, kept1 h16 hb, kept1 h17 hb, kept1 h18 hb, kept1 h19 hb, kept1 h20 hb, kept1 h21 hb, h.trans (hb.mono h.size)⟩

theorem keep23 {w W W' : World} {p0 p1 p2 p3 p4 p5 p6 p7 p8 p9 p10 p11 p12 p13 p14 p15 p16 p17 p18 p19 p20 p21 p22 : Addr} {x0 x1 x2 x3 x4 x5 x6 x7 x8 x9 x10 x11 x12 x13 x14 x15 x16 x17 x18 x19 x20 x21 x22 : Value} (h : W.cell? p0 = some x0 ∧ W.cell? p1 = some x1 ∧ W.cell? p2 = some x2 ∧ W.cell? p3 = some x3 ∧ W.cell? p4 = some x4 ∧ W.cell? p5 = some x5 ∧ W.cell? p6 = some x6 ∧ W.cell? p7 = some x7 ∧ W.cell? p8 = some x8 ∧ W.cell? p9 = some x9 ∧ W.cell? p10 = some x10 ∧ W.cell? p11 = some x11 ∧ W.cell? p12 = some x12 ∧ W.cell? p13 = some x13 ∧ W.cell? p14 = some x14 ∧ W.cell? p15 = some x15 ∧ W.cell? p16 = some x16 ∧ W.cell? p17 = some x17 ∧ W.cell? p18 = some x18 ∧ W.cell? p19 = some x19 ∧ W.cell? p20 = some x20 ∧ W.cell? p21 = some x21 ∧ W.cell? p22 = some x22 ∧ Below w.heap.size w W) (hb : Below W.heap.size W W') : W'.cell? p0 = some x0 ∧ W'.cell? p1 = some x1 ∧ W'.cell? p2 = some x2 ∧ W'.cell? p3 = some x3 ∧ W'.cell? p4 = some x4 ∧ W'.cell? p5 = some x5 ∧ W'.cell? p6 = some x6 ∧ W'.cell? p7 = some x7 ∧ W'.cell? p8 = some x8 ∧ W'.cell? p9 = some x9 ∧ W'.cell? p10 = some x10 ∧ W'.cell? p11 = some x11 ∧ W'.cell? p12 = some x12 ∧ W'.cell? p13 = some x13 ∧ W'.cell? p14 = some x14 ∧ W'.cell? p15 = some x15 ∧ W'.cell? p16 = some x16 ∧ W'.cell? p17 = some x17 ∧ W'.cell? p18 = some x18 ∧ W'.cell? p19 = some x19 ∧ W'.cell? p20 = some x20 ∧ W'.cell? p21 = some x21 ∧ W'.cell? p22 = some x22 ∧ Below w.heap.size w W' := by
  obtain ⟨h0, h1, h2, h3, h4, h5, h6, h7, h8, h9, h10, h11, h12, h13, h14, h15, h16, h17, h18, h19, h20, h21, h22, h⟩ := h
  exact ⟨kept1 h0 hb, kept1 h1 hb, kept1 h2 hb, kept1 h3 hb, kept1 h4 hb, kept1 h5 hb, kept1 h6 hb, kept1 h7 hb, kept1 h8 hb, kept1 h9 hb, kept1 h10 hb, kept1 h11 hb, kept1 h12 hb, kept1 h13 hb, kept1 h14 hb, kept1 h15 hb, kept1 h16 hb, kept1 h17 hb, kept1 h18 hb, kept1 h19 hb, kept1 h20 hb, kept1 h21 hb, kept1 h22 hb, h.trans (hb.mono h.size)⟩

theorem keep24 {w W W' : World} {p0 p1 p2 p3 p4 p5 p6 p7 p8 p9 p10 p11 p12 p13 p14 p15 p16 p17 p18 p19 p20 p21 p22 p23 : Addr} {x0 x1 x2 x3 x4 x5 x6 x7 x8 x9 x10 x11 x12 x13 x14 x15 x16 x17 x18 x19 x20 x21 x22 x23 : Value} (h : W.cell? p0 = some x0 ∧ W.cell? p1 = some x1 ∧ W.cell? p2 = some x2 ∧ W.cell? p3 = some x3 ∧ W.cell? p4 = some x4 ∧ W.cell? p5 = some x5 ∧ W.cell? p6 = some x6 ∧ W.cell? p7 = some x7 ∧ W.cell? p8 = some x8 ∧ W.cell? p9 = some x9 ∧ W.cell? p10 = some x10 ∧ W.cell? p11 = some x11 ∧ W.cell? p12 = some x12 ∧ W.cell? p13 = some x13 ∧ W.cell? p14 = some x14 ∧ W.cell? p15 = some x15 ∧ W.cell? p16 = some x16 ∧ W.cell? p17 = some x17 ∧ W.cell? p18 = some x18 ∧ W.cell? p19 = some x19 ∧ W.cell? p20 = some x20 ∧ W.cell? p21 = some x21 ∧ W.cell? p22 = some x22 ∧ W.cell? p23 = some x23 ∧ Below w.heap.size w W) (hb : Below W.heap.size W W') : W'.cell? p0 = some x0 ∧ W'.cell? p1 = some x1 ∧ W'.cell? p2 = some x2 ∧ W'.cell? p3 = some x3 ∧ W'.cell? p4 = some x4 ∧ W'.cell? p5 = some x5 ∧ W'.cell? p6 = some x6 ∧ W'.cell? p7 = some x7 ∧ W'.cell? p8 = some x8 ∧ W'.cell? p9 = some x9 ∧ W'.cell? p10 = some x10 ∧ W'.cell? p11 = some x11 ∧ W'.cell? p12 = some x12 ∧ W'.cell? p13 = some x13 ∧ W'.cell? p14 = some x14 ∧ W'.cell? p15 = some x15 ∧ W'.cell? p16 = some x16 ∧ W'.cell? p17 = some x17 ∧ W'.cell? p18 = some x18 ∧ W'.cell? p19 = some x19 ∧ W'.cell? p20 = some x20 ∧ W'.cell? p21 = some x21 ∧ W'.cell? p22 = some x22 ∧ W'.cell? p23 = some x23 ∧ Below w.heap.size w W' := by
  obtain ⟨h0, h1, h2, h3, h4, h5, h6, h7, h8, h9, h10, h11, h12, h13, h14, h15, h16, h17, h18, h19, h20, h21, h22, h23, h⟩ := h
  exact ⟨kept1 h0 hb, kept1 h1 hb, kept1 h2 hb, kept1 h3 hb, kept1 h4 hb, kept1 h5 hb, kept1 h6 hb, kept1 h7 hb, kept1 h8 hb, kept1 h9 hb, kept1 h10 hb, kept1 h11 hb, kept1 h12 hb, kept1 h13 hb, kept1 h14 hb, kept1 h15 hb, kept1 h16 hb, kept1 h17 hb, kept1 h18 hb, kept1 h19 hb, kept1 h20 hb, kept1 h21 hb, kept1 h22 hb, kept1 h23 hb, h.trans (hb.mono h.size)⟩

theorem cell_alloc {W : World} {p : Addr} {x : Value} (h : W.cell? p = some x) (o : Obj) : (W.alloc o).cell? p = some x := kept1 h ((Below.refl _ _).alloc (Nat.le_refl _) o)
theorem below_alloc {w W : World} (h : Below w.heap.size w W) (o : Obj) : Below w.heap.size w (W.alloc o) := h.alloc h.size o
theorem bstep0 {w W W' : World} (h : Below w.heap.size w W) (hb : Below W.heap.size W W') : Below w.heap.size w W' := h.trans (hb.mono h.size)
theorem kept_a1 {W W' : World} {o0 : Obj} {p : Addr} {x : Value} (h : W.cell? p = some x) (hb : Below (W.alloc o0).heap.size (W.alloc o0) W') : W'.cell? p = some x := kept1 (cell_alloc h _) hb
theorem bstep1 {w W W' : World} {o0 : Obj} (h : Below w.heap.size w W) (hb : Below (W.alloc o0).heap.size (W.alloc o0) W') : Below w.heap.size w W' := bstep0 (below_alloc h _) hb
theorem kept_a2 {W W' : World} {o0 o1 : Obj} {p : Addr} {x : Value} (h : W.cell? p = some x) (hb : Below ((W.alloc o0).alloc o1).heap.size ((W.alloc o0).alloc o1) W') : W'.cell? p = some x := kept1 (cell_alloc (cell_alloc h _) _) hb
theorem bstep2 {w W W' : World} {o0 o1 : Obj} (h : Below w.heap.size w W) (hb : Below ((W.alloc o0).alloc o1).heap.size ((W.alloc o0).alloc o1) W') : Below w.heap.size w W' := bstep0 (below_alloc (below_alloc h _) _) hb
theorem kept_a3 {W W' : World} {o0 o1 o2 : Obj} {p : Addr} {x : Value} (h : W.cell? p = some x) (hb : Below (((W.alloc o0).alloc o1).alloc o2).heap.size (((W.alloc o0).alloc o1).alloc o2) W') : W'.cell? p = some x := kept1 (cell_alloc (cell_alloc (cell_alloc h _) _) _) hb
theorem bstep3 {w W W' : World} {o0 o1 o2 : Obj} (h : Below w.heap.size w W) (hb : Below (((W.alloc o0).alloc o1).alloc o2).heap.size (((W.alloc o0).alloc o1).alloc o2) W') : Below w.heap.size w W' := bstep0 (below_alloc (below_alloc (below_alloc h _) _) _) hb
theorem kept_a4 {W W' : World} {o0 o1 o2 o3 : Obj} {p : Addr} {x : Value} (h : W.cell? p = some x) (hb : Below ((((W.alloc o0).alloc o1).alloc o2).alloc o3).heap.size ((((W.alloc o0).alloc o1).alloc o2).alloc o3) W') : W'.cell? p = some x := kept1 (cell_alloc (cell_alloc (cell_alloc (cell_alloc h _) _) _) _) hb
theorem bstep4 {w W W' : World} {o0 o1 o2 o3 : Obj} (h : Below w.heap.size w W) (hb : Below ((((W.alloc o0).alloc o1).alloc o2).alloc o3).heap.size ((((W.alloc o0).alloc o1).alloc o2).alloc o3) W') : Below w.heap.size w W' := bstep0 (below_alloc (below_alloc (below_alloc (below_alloc h _) _) _) _) hb
theorem kept_a5 {W W' : World} {o0 o1 o2 o3 o4 : Obj} {p : Addr} {x : Value} (h : W.cell? p = some x) (hb : Below (((((W.alloc o0).alloc o1).alloc o2).alloc o3).alloc o4).heap.size (((((W.alloc o0).alloc o1).alloc o2).alloc o3).alloc o4) W') : W'.cell? p = some x := kept1 (cell_alloc (cell_alloc (cell_alloc (cell_alloc (cell_alloc h _) _) _) _) _) hb
theorem bstep5 {w W W' : World} {o0 o1 o2 o3 o4 : Obj} (h : Below w.heap.size w W) (hb : Below (((((W.alloc o0).alloc o1).alloc o2).alloc o3).alloc o4).heap.size (((((W.alloc o0).alloc o1).alloc o2).alloc o3).alloc o4) W') : Below w.heap.size w W' := bstep0 (below_alloc (below_alloc (below_alloc (below_alloc (below_alloc h _) _) _) _) _) hb

theorem kept_fr3 {W W' : World} {b : Nat} (h : ∀ o, W.frozen? ⟨b, o, none⟩ = false) (hl : b < W.heap.size) (hb : Below W.heap.size W W') : ∀ o, W'.frozen? ⟨b, o, none⟩ = false := fun o => (hb.frozen (p := ⟨b, o, none⟩) hl).trans (h o)
theorem fz_alloc3 {W W' : World} {o : Obj} {b : Nat} (h : ∀ i, W.frozen? ⟨b, i, none⟩ = false) (hl : b < W.heap.size) (hb : Below (W.alloc o).heap.size (W.alloc o) W') : ∀ i, W'.frozen? ⟨b, i, none⟩ = false := fun i =>
  (hb.frozen (p := ⟨b, i, none⟩) (by show b < (W.alloc o).heap.size; simp; omega)).trans ((((Below.refl _ _).alloc (Nat.le_refl _) o).frozen (p := ⟨b, i, none⟩) hl).trans (h i))
end Go.Proofs.YtemacokojdeimaaGreatDoor

/- Package chain, mirrored: each of its functions as a plain function on lists, in its own steps. A search that has no bound of its own takes fuel. -/
namespace Ch

/-- a link -/
structure Lk where
  f : Int
  t : Int
  m : Int

def free : Int := 1152921504606846976
def top : Int := 4503599627370496
def noLk : Lk := ⟨0, 0, 0⟩

def isIx (i c : Int) : Bool := decide (0 ≤ i) && decide (i < c)
def okLk (n : Int) (l : Lk) : Bool := isIx l.f n && isIx l.t n && l.f != l.t && decide (-top ≤ l.m) && decide (l.m ≤ top)
def sameLk (a b : Lk) : Bool := a.f == b.f && a.t == b.t && a.m == b.m

/-- the first link that is not valid, from the k-th on -/
def bad (n : Int) : List Lk → Nat → Option Nat
  | [], _ => none
  | l :: r, k => if okLk n l then bad n r (k + 1) else some k

/-- Check: the error, the index -/
def check (n : Int) (L : List Lk) : Int × Int :=
  if n < 1 ∨ 60 < n then (1, -1) else if 300 < L.length then (2, -1) else
  match bad n L 0 with
  | some k => (1, k)
  | none => (0, -1)

theorem drop_at {L : List Lk} {k : Nat} (h : k < L.length) : L.drop k = L.getD k noLk :: L.drop (k + 1) := by
  rw [List.drop_eq_getElem_cons h, List.getD, List.getElem?_eq_getElem h]; rfl
theorem bad_step {n : Int} {L : List Lk} {k : Nat} (h : k < L.length) : bad n (L.drop k) k = if okLk n (L.getD k noLk) then bad n (L.drop (k + 1)) (k + 1) else some k := by
  rw [drop_at h, bad]
theorem check_mid {n : Int} {L : List Lk} (h0 : ¬ n < 1) (h1 : ¬ 60 < n) (h2 : ¬ 300 < L.length) : check n L = match bad n L 0 with | some k => (1, (k : Int)) | none => (0, -1) := by
  unfold check
  rw [if_neg (by omega), if_neg h2]
theorem check_n {n : Int} {L : List Lk} (h : n < 1 ∨ 60 < n) : check n L = (1, -1) := by unfold check; rw [if_pos h]
theorem check_l {n : Int} {L : List Lk} (h : ¬ (n < 1 ∨ 60 < n)) (h2 : 300 < L.length) : check n L = (2, -1) := by unfold check; rw [if_neg h, if_pos h2]

theorem bad_none {n : Int} : ∀ {L : List Lk} {k : Nat}, bad n L k = none → ∀ j, j < L.length → okLk n (L.getD j noLk) = true
  | [], _, _, j, hj => by simp at hj
  | l :: r, k, h, j, hj => by
    rw [bad] at h
    split at h
    · rename_i h1
      cases j with
      | zero => exact h1
      | succ j => exact bad_none h j (by simpa using hj)
    · cases h
theorem check_ok {n : Int} {L : List Lk} (h : (check n L).1 = 0) : 1 ≤ n ∧ n ≤ 60 ∧ L.length ≤ 300 ∧ ∀ j, j < L.length → okLk n (L.getD j noLk) = true := by
  unfold check at h
  split at h
  · simp at h
  · split at h
    · simp at h
    · split at h
      · simp at h
      · rename_i h1 h2 _ h3
        exact ⟨by omega, by omega, by omega, bad_none h3⟩
theorem okLk_spec {n : Int} {l : Lk} (h : okLk n l = true) : 0 ≤ l.f ∧ l.f < n ∧ 0 ≤ l.t ∧ l.t < n ∧ l.f ≠ l.t ∧ -4503599627370496 ≤ l.m ∧ l.m ≤ 4503599627370496 := by
  unfold okLk isIx top at h
  simp at h
  omega

/-- checkIndices -/
def ixErr (m : Nat) (l : List Int) : Int := if 80 < l.length then 2 else if l.all (fun i => isIx i m) then 0 else 1
theorem all_at {p : Int → Bool} {l : List Int} {k : Nat} (h : k < l.length) : (l.drop k).all p = (p (l.getD k 0) && (l.drop (k + 1)).all p) := by
  rw [List.drop_eq_getElem_cons h, List.all_cons, List.getD, List.getElem?_eq_getElem h]; rfl

/-- a value beyond all sums -/
def far (v : Int) : Bool := decide (v < -free) || decide (free < v)
theorem any_at {p : Int → Bool} {l : List Int} {k : Nat} (h : k < l.length) : (l.drop k).any p = (p (l.getD k 0) || (l.drop (k + 1)).any p) := by
  rw [List.drop_eq_getElem_cons h, List.any_cons, List.getD, List.getElem?_eq_getElem h]; rfl
theorem any_far {l : List Int} (h : l.any far = false) : ∀ k, k < l.length → -1152921504606846976 ≤ l.getD k 0 ∧ l.getD k 0 ≤ 1152921504606846976 := by
  intro k hk
  rw [List.any_eq_false] at h
  have := h (l.getD k 0) (by rw [List.getD, List.getElem?_eq_getElem hk]; exact List.getElem_mem hk)
  generalize l.getD k 0 = z at this ⊢
  unfold far free at this
  simp at this
  omega
def solves : List Lk → List Int → Bool
  | [], _ => true
  | l :: r, x => if x.getD l.f.toNat 0 + l.m < x.getD l.t.toNat 0 then false else solves r x
theorem solves_at {L : List Lk} {x : List Int} {k : Nat} (h : k < L.length) : solves (L.drop k) x = if x.getD (L.getD k noLk).f.toNat 0 + (L.getD k noLk).m < x.getD (L.getD k noLk).t.toNat 0 then false else solves (L.drop (k + 1)) x := by
  rw [drop_at h, solves]
/-- Fits -/
def fits (n : Int) (L : List Lk) (x : List Int) : Bool × Int :=
  if (check n L).1 ≠ 0 then (false, (check n L).1) else
  if (x.length : Int) ≠ n ∨ x.any far = true then (false, 1) else
  if solves L x then (x.getD 0 0 == 0, 0) else (false, 0)

/-- the indices of the links into a node -/
def into (L : List Lk) (v : Nat) : List Nat := (List.range L.length).filter fun i => (L.getD i noLk).t == (v : Int)
/-- .. of the first k links -/
def intoK (L : List Lk) (k v : Nat) : List Nat := (List.range k).filter fun i => (L.getD i noLk).t == (v : Int)
theorem intoK_all (L : List Lk) (v : Nat) : intoK L L.length v = into L v := rfl
theorem intoK_zero (L : List Lk) (v : Nat) : intoK L 0 v = [] := rfl
theorem intoK_hit {L : List Lk} {k v : Nat} (h : (L.getD k noLk).t = (v : Int)) : intoK L (k + 1) v = intoK L k v ++ [k] := by
  unfold intoK
  rw [List.range_succ, List.filter_append]
  congr 1
  rw [List.filter_cons, h]
  simp
theorem intoK_miss {L : List Lk} {k v : Nat} (h : (L.getD k noLk).t ≠ (v : Int)) : intoK L (k + 1) v = intoK L k v := by
  unfold intoK
  rw [List.range_succ, List.filter_append]
  have : [k].filter (fun i => (L.getD i noLk).t == (v : Int)) = [] := by
    rw [List.filter_cons, show ((L.getD k noLk).t == (v : Int)) = false by rw [beq_eq_false_iff_ne]; exact h]
    simp
  rw [this, List.append_nil]
theorem intoK_len (L : List Lk) (k v : Nat) : (intoK L k v).length ≤ k := by
  unfold intoK
  have := List.length_filter_le (fun i => (L.getD i noLk).t == (v : Int)) (List.range k)
  simpa using this

/-- the links into a node that are not left out -/
def linksInto (L : List Lk) (drop : List Bool) (v : Nat) : List Lk := ((into L v).filter fun i => !drop.getD i false).map fun i => L.getD i noLk

/-- what settle holds: sums, who waits, links, the queue -/
structure St where
  s : List Int
  w : List Bool
  c : List Int
  q : List Nat

/-- a link in front of the chains of the node u; none: it has as many links as there are nodes -/
def relax (n : Nat) (u : Nat) (l : Lk) (x : St) : Option St :=
  if x.s.getD l.f.toNat 0 ≤ x.s.getD u 0 + l.m then some x else
  if x.c.getD u 0 + 1 = (n : Int) then none else
  if x.w.getD l.f.toNat false then some { x with s := x.s.set l.f.toNat (x.s.getD u 0 + l.m), c := x.c.set l.f.toNat (x.c.getD u 0 + 1) } else
  some ⟨x.s.set l.f.toNat (x.s.getD u 0 + l.m), x.w.set l.f.toNat true, x.c.set l.f.toNat (x.c.getD u 0 + 1), x.q ++ [l.f.toNat]⟩

def relaxAll (n u : Nat) : List Lk → St → Option St
  | [], x => some x
  | l :: r, x => match relax n u l x with
    | none => none
    | some y => relaxAll n u r y

/-- settle: none: the fuel was too little; some none: it gave up -/
def settleGo (n : Nat) (L : List Lk) (drop : List Bool) : Nat → St → Option (Option (List Int))
  | 0, _ => none
  | k + 1, x => match x.q with
    | [] => some (some x.s)
    | u :: q => match relaxAll n u (linksInto L drop u) { x with w := x.w.set u false, q := q } with
      | none => some none
      | some y => settleGo n L drop k y

/-- how settle begins: the nodes whose sum is known wait -/
def settle0 (s : List Int) : St :=
  ⟨s, (List.range 60).map fun v => decide (v < s.length) && s.getD v 0 != free, List.replicate 60 0, (List.range s.length).filter fun v => s.getD v 0 != free⟩
def settle (n : Nat) (L : List Lk) (drop : List Bool) (k : Nat) (s : List Int) : Option (Option (List Int)) := settleGo n L drop k (settle0 s)

def levels (n : Nat) (L : List Lk) (drop : List Bool) (k : Nat) : Option (Option (List Int)) := settle n L drop k (List.replicate n 0)
def unbound (n : Nat) : List Int := List.replicate n free
def boundsTo (n : Nat) (L : List Lk) (drop : List Bool) (k : Nat) (v : Nat) : Option (Option (List Int)) := settle n L drop k ((unbound n).set v 0)

/-- one link more in front -/
def lengthen (n : Nat) (L : List Lk) (drop : List Bool) (s : List Int) : List Int :=
  (List.range n).foldl (fun acc v => if s.getD v 0 = free then acc else (linksInto L drop v).foldl (fun a l => a.set l.f.toNat (min (a.getD l.f.toNat 0) (s.getD v 0 + l.m))) acc) (unbound n)
def sumsTo (n : Nat) (L : List Lk) (drop : List Bool) (v : Nat) : Nat → List Int
  | 0 => (unbound n).set v 0
  | k + 1 => lengthen n L drop (sumsTo n L drop v k)

/-- the first index from 'at' on of a link from a node that can begin the rest -/
def firstLk (L : List Lk) (rest : List Int) (u : Nat) (most : Int) : Option Nat := (List.range L.length).find? fun i => (L.getD i noLk).f == (u : Int) && decide (rest.getD (L.getD i noLk).t.toNat 0 ≤ most - (L.getD i noLk).m)
def firstChain (n : Nat) (L : List Lk) (drop : List Bool) (v : Nat) : Nat → Nat → Int → List Nat
  | 0, _, _ => []
  | k + 1, u, most => match firstLk L (sumsTo n L drop v k) u most with
    | none => []
    | some i => i :: firstChain n L drop v k (L.getD i noLk).t.toNat (most - (L.getD i noLk).m)

/-- the sum of a chain, and whether it is one from u to v -/
def follow (L : List Lk) (v : Int) : List Int → Int → Int → Int × Bool
  | [], u, sum => (sum, u == v)
  | i :: r, u, sum => if (L.getD i.toNat noLk).f != u then (0, false) else follow L v r (L.getD i.toNat noLk).t (sum + (L.getD i.toNat noLk).m)

theorem follow_at {L : List Lk} {v u sum : Int} {l : List Int} {k : Nat} (h : k < l.length) : follow L v (l.drop k) u sum = if (L.getD (l.getD k 0).toNat noLk).f != u then (0, false) else follow L v (l.drop (k + 1)) (L.getD (l.getD k 0).toNat noLk).t (sum + (L.getD (l.getD k 0).toNat noLk).m) := by
  have e : l[k] = l.getD k 0 := by rw [List.getD, List.getElem?_eq_getElem h]; rfl
  rw [List.drop_eq_getElem_cons h, follow, e]

/-- where a list of indices starts -/
def start (L : List Lk) (l : List Int) : Int := (L.getD (l.getD 0 0).toNat noLk).f
/-- CheckClash -/
def checkClash (n : Int) (L : List Lk) (l : List Int) : Int :=
  if (check n L).1 ≠ 0 then (check n L).1 else if ixErr L.length l ≠ 0 then ixErr L.length l else if l = [] then 8 else
  if (follow L (start L l) l (start L l) 0).2 = true ∧ (follow L (start L l) l (start L l) 0).1 < 0 then 0 else 8
/-- CheckChain -/
def checkChain (n : Int) (L : List Lk) (u v : Int) (l : List Int) : Int × Int :=
  if (check n L).1 ≠ 0 then (0, (check n L).1) else if ¬ (isIx u n = true ∧ isIx v n = true) then (0, 1) else if ixErr L.length l ≠ 0 then (0, ixErr L.length l) else
  if (follow L v l u 0).2 = true then ((follow L v l u 0).1, 0) else (0, 8)
theorem ix_ok {m : Nat} {l : List Int} (h : ixErr m l = 0) : l.length ≤ 80 ∧ ∀ k, k < l.length → 0 ≤ l.getD k 0 ∧ l.getD k 0 < (m : Int) := by
  unfold ixErr at h
  split at h
  · simp at h
  · split at h
    · rename_i h1 h2
      refine ⟨by omega, fun k hk => ?_⟩
      rw [List.all_eq_true] at h2
      have := h2 (l.getD k 0) (by rw [List.getD, List.getElem?_eq_getElem hk]; exact List.getElem_mem hk)
      unfold isIx at this
      simpa using this
    · simp at h

def turned (L : List Lk) : List Lk := L.map fun l => ⟨l.t, l.f, l.m⟩
def hasTwin (L : List Lk) (drop : List Bool) (w : Nat) : Bool := (List.range L.length).any fun i => i != w && !drop.getD i false && sameLk (L.getD i noLk) (L.getD w noLk)

/-! ### the chapter's examples -/
def exL : List Lk := [⟨0, 1, 5⟩, ⟨1, 2, 3⟩, ⟨0, 2, 9⟩, ⟨2, 0, -6⟩, ⟨2, 1, -2⟩]
def no5 : List Bool := List.replicate 5 false
theorem ex_check : check 4 exL = (0, -1) := by decide
theorem ex_levels : levels 4 exL no5 40 = some (some [0, -3, -6, 0]) := by decide +kernel
theorem ex_to2 : boundsTo 4 exL no5 40 2 = some (some [8, 3, 0, free]) := by decide +kernel
theorem ex_to0 : boundsTo 4 exL no5 40 0 = some (some [0, -3, -6, free]) := by decide +kernel
end Ch

/- Contracts of package chain: isIndex, validLink, Check. -/
namespace Go.Proofs.YtemacokojdeimaaGreatDoor
open Go.RowKit

/-- a link, as a value -/
def lkV (l : Ch.Lk) : Value := .agg #[.int .i64 l.f, .int .i64 l.t, .int .i64 l.m]

set_option maxHeartbeats 400000 in
theorem isIndex_any (i c : Int) (w : World) :
    Calls Tryz.prog 38 #[.int .i64 i, .int .i64 c] w fun e w' => e = .returned (.bool (Ch.isIx i c)) ∧ w' = w := by
  by_cases h : 0 ≤ i
  · by_cases h2 : i < c
    · go_enter Tryz.func38, Tryz.ntmps38
      go_wp2
      go_ret
      exact ⟨ret_bool (by simp [Ch.isIx, h, h2]), rfl⟩
    · go_enter Tryz.func38, Tryz.ntmps38
      go_wp2
      go_ret
      exact ⟨ret_bool (by simp [Ch.isIx, h2]), rfl⟩
  · go_enter Tryz.func38, Tryz.ntmps38
    go_wp2
    go_ret
    exact ⟨ret_bool (by unfold Ch.isIx; rw [decide_eq_false (show ¬ 0 ≤ i by omega)]; rfl), rfl⟩

set_option maxHeartbeats 400000 in
theorem validLink_a (f t m n : Int) (H1 : Hid (∀ W : World, Calls Tryz.prog 38 #[.int .i64 f, .int .i64 n] W fun e w' => e = .returned (.bool false) ∧ w' = W)) (w : World) :
    Calls Tryz.prog 51 #[.agg #[.int .i64 f, .int .i64 t, .int .i64 m], .int .i64 n] w fun e w' => e = .returned (.bool false) ∧ Below w.heap.size w w' := by
  go_enter Tryz.func51, Tryz.ntmps51
  go_wp2_with fail
  refine (H1.out _).mono ?_
  rintro e w1 ⟨rfl, hw1⟩
  subst hw1
  go_wp2
  go_ret
  exact ⟨by first | rfl | (simp; done) | (simp; omega), (by repeat (first | with_reducible exact Below.refl _ _ | with_reducible assumption | refine below_drewN ?_ _ | refine Below.drew ?_ | refine Below.alloc ?_ (by first | (simp; done) | (simp; omega) | omega) _ | refine Below.setCell ?_ (by first | (simp; done) | (simp; omega) | omega) _ | refine Below.trans ?_ (Below.mono (by assumption) (by first | (simp; done) | (simp; omega) | omega))))⟩

set_option maxHeartbeats 400000 in
theorem validLink_b (f t m n : Int) (H1 : Hid (∀ W : World, Calls Tryz.prog 38 #[.int .i64 f, .int .i64 n] W fun e w' => e = .returned (.bool true) ∧ w' = W)) (H2 : Hid (∀ W : World, Calls Tryz.prog 38 #[.int .i64 t, .int .i64 n] W fun e w' => e = .returned (.bool false) ∧ w' = W)) (w : World) :
    Calls Tryz.prog 51 #[.agg #[.int .i64 f, .int .i64 t, .int .i64 m], .int .i64 n] w fun e w' => e = .returned (.bool false) ∧ Below w.heap.size w w' := by
  go_enter Tryz.func51, Tryz.ntmps51
  go_wp2_with fail
  refine (H1.out _).mono ?_
  rintro e w1 ⟨rfl, hw1⟩
  subst hw1
  go_wp2_with fail
  refine (H2.out _).mono ?_
  rintro e w2 ⟨rfl, hw2⟩
  subst hw2
  go_wp2
  go_ret
  exact ⟨by first | rfl | (simp; done) | (simp; omega), (by repeat (first | with_reducible exact Below.refl _ _ | with_reducible assumption | refine below_drewN ?_ _ | refine Below.drew ?_ | refine Below.alloc ?_ (by first | (simp; done) | (simp; omega) | omega) _ | refine Below.setCell ?_ (by first | (simp; done) | (simp; omega) | omega) _ | refine Below.trans ?_ (Below.mono (by assumption) (by first | (simp; done) | (simp; omega) | omega))))⟩

set_option maxHeartbeats 400000 in
theorem validLink_c (f t m n : Int) (H1 : Hid (∀ W : World, Calls Tryz.prog 38 #[.int .i64 f, .int .i64 n] W fun e w' => e = .returned (.bool true) ∧ w' = W)) (H2 : Hid (∀ W : World, Calls Tryz.prog 38 #[.int .i64 t, .int .i64 n] W fun e w' => e = .returned (.bool true) ∧ w' = W)) (h3 : (f != t) = false) (w : World) :
    Calls Tryz.prog 51 #[.agg #[.int .i64 f, .int .i64 t, .int .i64 m], .int .i64 n] w fun e w' => e = .returned (.bool false) ∧ Below w.heap.size w w' := by
  go_enter Tryz.func51, Tryz.ntmps51
  go_wp2_with fail
  refine (H1.out _).mono ?_
  rintro e w1 ⟨rfl, hw1⟩
  subst hw1
  go_wp2_with fail
  refine (H2.out _).mono ?_
  rintro e w2 ⟨rfl, hw2⟩
  subst hw2
  go_wp2
  go_ret
  exact ⟨by first | rfl | (simp; done) | (simp; omega), (by repeat (first | with_reducible exact Below.refl _ _ | with_reducible assumption | refine below_drewN ?_ _ | refine Below.drew ?_ | refine Below.alloc ?_ (by first | (simp; done) | (simp; omega) | omega) _ | refine Below.setCell ?_ (by first | (simp; done) | (simp; omega) | omega) _ | refine Below.trans ?_ (Below.mono (by assumption) (by first | (simp; done) | (simp; omega) | omega))))⟩

set_option maxHeartbeats 400000 in
theorem validLink_d (f t m n : Int) (H1 : Hid (∀ W : World, Calls Tryz.prog 38 #[.int .i64 f, .int .i64 n] W fun e w' => e = .returned (.bool true) ∧ w' = W)) (H2 : Hid (∀ W : World, Calls Tryz.prog 38 #[.int .i64 t, .int .i64 n] W fun e w' => e = .returned (.bool true) ∧ w' = W)) (h3 : (f != t) = true) (h4 : m < -4503599627370496) (w : World) :
    Calls Tryz.prog 51 #[.agg #[.int .i64 f, .int .i64 t, .int .i64 m], .int .i64 n] w fun e w' => e = .returned (.bool false) ∧ Below w.heap.size w w' := by
  go_enter Tryz.func51, Tryz.ntmps51
  go_wp2_with fail
  refine (H1.out _).mono ?_
  rintro e w1 ⟨rfl, hw1⟩
  subst hw1
  go_wp2_with fail
  refine (H2.out _).mono ?_
  rintro e w2 ⟨rfl, hw2⟩
  subst hw2
  go_wp2
  go_ret
  exact ⟨by first | rfl | (simp; done) | (simp; omega), (by repeat (first | with_reducible exact Below.refl _ _ | with_reducible assumption | refine below_drewN ?_ _ | refine Below.drew ?_ | refine Below.alloc ?_ (by first | (simp; done) | (simp; omega) | omega) _ | refine Below.setCell ?_ (by first | (simp; done) | (simp; omega) | omega) _ | refine Below.trans ?_ (Below.mono (by assumption) (by first | (simp; done) | (simp; omega) | omega))))⟩

set_option maxHeartbeats 400000 in
theorem validLink_e (f t m n : Int) (H1 : Hid (∀ W : World, Calls Tryz.prog 38 #[.int .i64 f, .int .i64 n] W fun e w' => e = .returned (.bool true) ∧ w' = W)) (H2 : Hid (∀ W : World, Calls Tryz.prog 38 #[.int .i64 t, .int .i64 n] W fun e w' => e = .returned (.bool true) ∧ w' = W)) (h3 : (f != t) = true) (h4 : ¬ m < -4503599627370496) (h5 : 4503599627370496 < m) (w : World) :
    Calls Tryz.prog 51 #[.agg #[.int .i64 f, .int .i64 t, .int .i64 m], .int .i64 n] w fun e w' => e = .returned (.bool false) ∧ Below w.heap.size w w' := by
  go_enter Tryz.func51, Tryz.ntmps51
  go_wp2_with fail
  refine (H1.out _).mono ?_
  rintro e w1 ⟨rfl, hw1⟩
  subst hw1
  go_wp2_with fail
  refine (H2.out _).mono ?_
  rintro e w2 ⟨rfl, hw2⟩
  subst hw2
  go_wp2
  go_ret
  exact ⟨by first | rfl | (simp; done) | (simp; omega), (by repeat (first | with_reducible exact Below.refl _ _ | with_reducible assumption | refine below_drewN ?_ _ | refine Below.drew ?_ | refine Below.alloc ?_ (by first | (simp; done) | (simp; omega) | omega) _ | refine Below.setCell ?_ (by first | (simp; done) | (simp; omega) | omega) _ | refine Below.trans ?_ (Below.mono (by assumption) (by first | (simp; done) | (simp; omega) | omega))))⟩

set_option maxHeartbeats 400000 in
theorem validLink_f (f t m n : Int) (H1 : Hid (∀ W : World, Calls Tryz.prog 38 #[.int .i64 f, .int .i64 n] W fun e w' => e = .returned (.bool true) ∧ w' = W)) (H2 : Hid (∀ W : World, Calls Tryz.prog 38 #[.int .i64 t, .int .i64 n] W fun e w' => e = .returned (.bool true) ∧ w' = W)) (h3 : (f != t) = true) (h4 : ¬ m < -4503599627370496) (h5 : ¬ 4503599627370496 < m) (w : World) :
    Calls Tryz.prog 51 #[.agg #[.int .i64 f, .int .i64 t, .int .i64 m], .int .i64 n] w fun e w' => e = .returned (.bool true) ∧ Below w.heap.size w w' := by
  go_enter Tryz.func51, Tryz.ntmps51
  go_wp2_with fail
  refine (H1.out _).mono ?_
  rintro e w1 ⟨rfl, hw1⟩
  subst hw1
  go_wp2_with fail
  refine (H2.out _).mono ?_
  rintro e w2 ⟨rfl, hw2⟩
  subst hw2
  go_wp2
  go_ret
  exact ⟨by first | rfl | (simp; done) | (simp; omega), (by repeat (first | with_reducible exact Below.refl _ _ | with_reducible assumption | refine below_drewN ?_ _ | refine Below.drew ?_ | refine Below.alloc ?_ (by first | (simp; done) | (simp; omega) | omega) _ | refine Below.setCell ?_ (by first | (simp; done) | (simp; omega) | omega) _ | refine Below.trans ?_ (Below.mono (by assumption) (by first | (simp; done) | (simp; omega) | omega))))⟩

theorem validLink_any (l : Ch.Lk) (n : Int) (w : World) :
    Calls Tryz.prog 51 #[lkV l, .int .i64 n] w fun e w' => e = .returned (.bool (Ch.okLk n l)) ∧ Below w.heap.size w w' := by
  obtain ⟨f, t, m⟩ := l
  have H1 := isIndex_any f n
  have H2 := isIndex_any t n
  unfold Ch.okLk Ch.top
  cases p : Ch.isIx f n
  · rw [p] at H1
    simp only [Bool.false_and]
    exact validLink_a f t m n (Lib.hid H1) w
  rw [p] at H1
  cases q : Ch.isIx t n
  · rw [q] at H2
    simp only [Bool.and_false, Bool.false_and]
    exact validLink_b f t m n (Lib.hid H1) (Lib.hid H2) w
  rw [q] at H2
  cases h3 : f != t
  · simp only [Bool.and_false, Bool.false_and]
    exact validLink_c f t m n (Lib.hid H1) (Lib.hid H2) h3 w
  by_cases h4 : m < -4503599627370496
  · rw [show (true && true && true && decide (-4503599627370496 ≤ m) && decide (m ≤ 4503599627370496)) = false by simp; omega]
    exact validLink_d f t m n (Lib.hid H1) (Lib.hid H2) h3 h4 w
  by_cases h5 : 4503599627370496 < m
  · rw [show (true && true && true && decide (-4503599627370496 ≤ m) && decide (m ≤ 4503599627370496)) = false by simp; omega]
    exact validLink_e f t m n (Lib.hid H1) (Lib.hid H2) h3 h4 h5 w
  · rw [show (true && true && true && decide (-4503599627370496 ≤ m) && decide (m ≤ 4503599627370496)) = true by simp; omega]
    exact validLink_f f t m n (Lib.hid H1) (Lib.hid H2) h3 h4 h5 w
end Go.Proofs.YtemacokojdeimaaGreatDoor

/- Contracts of package chain: Check. -/
namespace Go.Proofs.YtemacokojdeimaaGreatDoor
open Go.RowKit

/-- a link that lies at an address -/
def LkAt (w : World) (p : Addr) (l : Ch.Lk) : Prop := w.cell? p = some (.int .i64 l.f) ∧ w.cell? ⟨p.block, p.off + 1, none⟩ = some (.int .i64 l.t) ∧ w.cell? ⟨p.block, p.off + 2, none⟩ = some (.int .i64 l.m)
theorem LkAt.below {w W : World} {p : Addr} {l : Ch.Lk} (h : LkAt w p l) (hb : Below w.heap.size w W) : LkAt W p l := ⟨kept1 h.1 hb, kept1 h.2.1 hb, kept1 h.2.2 hb⟩

/-- links that lie in a row -/
def LksAt (w : World) (a : Option Addr) (L : List Ch.Lk) : Prop := ∀ k, k < L.length → ∃ x, a = some x ∧ LkAt w (x.add (k * 3)) (L.getD k Ch.noLk)
theorem LksAt.below {w W : World} {a : Option Addr} {L : List Ch.Lk} (h : LksAt w a L) (hb : Below w.heap.size w W) : LksAt W a L := fun k hk => by
  obtain ⟨x, hx, h1⟩ := h k hk
  exact ⟨x, hx, h1.below hb⟩

/-- a system, as a value -/
def sysV (n : Int) (a : Option Addr) (m cap : Nat) : Value := .agg #[.int .i64 n, .slice a m cap]

set_option maxRecDepth 100000 in
set_option maxHeartbeats 2000000 in
theorem check_loop (n : Int) (x : Addr) (cap : Nat) (L : List Ch.Lk) (m : Nat) (hm : Hid (L.length = m)) (h0 : ¬ n < 1) (h1 : ¬ 60 < n) (h2 : ¬ (300 : Int) < (m : Int)) (w : World) (hL : Hid (LksAt w (some x) L)) :
    Calls Tryz.prog 25 #[.agg #[.int .i64 n, .slice (some x) m cap]] w fun e w' => e = .returned (.tuple #[.int .i64 (Ch.check n L).1, .int .i64 (Ch.check n L).2]) ∧ Below w.heap.size w w' := by
  have hm3 : m ≤ 300 := by omega
  go_enter Tryz.func25, Tryz.ntmps25
  go_wp2
  go_loopw [21] (fun i wr => ∃ k : Nat, k ≤ m ∧ i = .int .i64 k ∧ wr.cell? ⟨w.heap.size, 0, none⟩ = some (.int .i64 n) ∧ Below w.heap.size w wr ∧ w.heap.size < wr.heap.size ∧ Hid (Ch.bad n L 0 = Ch.bad n (L.drop k) k)) (fun i _ => m - (RowKit.intOf i).toNat)
  case atStart => exact ⟨0, Nat.zero_le _, rfl, by simp [go_sem], (by repeat (first | with_reducible exact Below.refl _ _ | with_reducible assumption | refine below_drewN ?_ _ | refine Below.drew ?_ | refine Below.alloc ?_ (by first | (simp; done) | (simp; omega) | omega) _ | refine Below.setCell ?_ (by first | (simp; done) | (simp; omega) | omega) _ | refine Below.trans ?_ (Below.mono (by assumption) (by first | (simp; done) | (simp; omega) | omega)))), by simp, Lib.hid rfl⟩
  case round =>
    obtain ⟨k, hk, rfl, hn, hb, hsz, hbad⟩ := hrel
    by_cases hlt : k < m
    · obtain ⟨f, t, mo, hl⟩ : ∃ f t mo, L.getD k Ch.noLk = ⟨f, t, mo⟩ := ⟨_, _, _, rfl⟩
      have hl3 := (hL.out k (by have := hm.out; omega))
      obtain ⟨x', hx', hl3⟩ := hl3
      obtain rfl := Option.some.inj hx'
      have ⟨hc0, hc1, hc2⟩ := hl3.below hb
      rw [hl] at hc0 hc1 hc2
      clear hl3
      have hi5 : (k : Int) < (m : Int) := by omega
      have hst := Ch.bad_step (n := n) (L := L) (k := k) (by have := hm.out; omega)
      rw [hl] at hst
      cases hv : Ch.okLk n ⟨f, t, mo⟩
      · have HV := validLink_any ⟨f, t, mo⟩ n
        rw [hv] at HV hst
        replace HV := Lib.hid HV
        replace hst := Lib.hid hst
        go_wp2_with (go_at_call 51; refine (HV.out _).mono ?_; rintro e w1 ⟨rfl, hb1⟩)
        go_ret2
        refine ⟨?_, (by repeat (first | with_reducible exact Below.refl _ _ | with_reducible assumption | refine below_drewN ?_ _ | refine Below.drew ?_ | refine Below.alloc ?_ (by first | (simp; done) | (simp; omega) | omega) _ | refine Below.setCell ?_ (by first | (simp; done) | (simp; omega) | omega) _ | refine Below.trans ?_ (Below.mono (by assumption) (by first | (simp; done) | (simp; omega) | omega))))⟩
        rw [Ch.check_mid (by omega) (by omega) (by have := hm.out; omega), hbad.out, hst.out]
        simp
      · have HV := validLink_any ⟨f, t, mo⟩ n
        rw [hv] at HV hst
        replace HV := Lib.hid HV
        replace hst := Lib.hid hst
        go_wp2_with (go_at_call 51; refine (HV.out _).mono ?_; rintro e w1 ⟨rfl, hb1⟩)
        have hn1 : w1.cell? ⟨w.heap.size, 0, none⟩ = some (.int .i64 n) := kept_a1 hn hb1
        have hbw : Below w.heap.size w w1 := bstep1 hb hb1
        have hz1 := block_lt_of_cell hn1
        clear hn hb hb1
        go_wp2
        go_roundw
        case rel => exact ⟨k + 1, by omega, by go_num, hn1, hbw, hz1, Lib.hid (by rw [hbad.out, hst.out]; simp)⟩
        case measure => first | (simp [RowKit.intOf]; done) | (simp [RowKit.intOf]; omega) | omega
    · obtain rfl : k = m := by omega
      have hi5 : ¬ (k : Int) < (k : Int) := by omega
      have hb9 : Hid (Ch.bad n L 0 = none) := Lib.hid (by rw [hbad.out, List.drop_eq_nil_of_le (by have := hm.out; omega)]; rfl)
      clear hbad
      go_wp2
      go_ret2
      refine ⟨?_, (by repeat (first | with_reducible exact Below.refl _ _ | with_reducible assumption | refine below_drewN ?_ _ | refine Below.drew ?_ | refine Below.alloc ?_ (by first | (simp; done) | (simp; omega) | omega) _ | refine Below.setCell ?_ (by first | (simp; done) | (simp; omega) | omega) _ | refine Below.trans ?_ (Below.mono (by assumption) (by first | (simp; done) | (simp; omega) | omega))))⟩
      rw [Ch.check_mid (by omega) (by omega) (by have := hm.out; omega), hb9.out]
      rfl

set_option maxHeartbeats 400000 in
theorem check_bad (n : Int) (a : Option Addr) (m cap : Nat) (h : n < 1 ∨ 60 < n) (w : World) :
    Calls Tryz.prog 25 #[sysV n a m cap] w fun e w' => e = .returned (.tuple #[.int .i64 1, .int .i64 (-1)]) ∧ Below w.heap.size w w' := by
  unfold sysV
  rcases h with h | h
  · go_enter Tryz.func25, Tryz.ntmps25
    go_wp2
    go_ret2
    exact ⟨rfl, (by repeat (first | with_reducible exact Below.refl _ _ | with_reducible assumption | refine below_drewN ?_ _ | refine Below.drew ?_ | refine Below.alloc ?_ (by first | (simp; done) | (simp; omega) | omega) _ | refine Below.setCell ?_ (by first | (simp; done) | (simp; omega) | omega) _ | refine Below.trans ?_ (Below.mono (by assumption) (by first | (simp; done) | (simp; omega) | omega))))⟩
  · have h2 : ¬ n < 1 := by omega
    go_enter Tryz.func25, Tryz.ntmps25
    go_wp2
    go_ret2
    exact ⟨rfl, (by repeat (first | with_reducible exact Below.refl _ _ | with_reducible assumption | refine below_drewN ?_ _ | refine Below.drew ?_ | refine Below.alloc ?_ (by first | (simp; done) | (simp; omega) | omega) _ | refine Below.setCell ?_ (by first | (simp; done) | (simp; omega) | omega) _ | refine Below.trans ?_ (Below.mono (by assumption) (by first | (simp; done) | (simp; omega) | omega))))⟩

set_option maxHeartbeats 400000 in
theorem check_long (n : Int) (a : Option Addr) (m cap : Nat) (h0 : ¬ n < 1) (h1 : ¬ 60 < n) (h2 : (300 : Int) < (m : Int)) (w : World) :
    Calls Tryz.prog 25 #[sysV n a m cap] w fun e w' => e = .returned (.tuple #[.int .i64 2, .int .i64 (-1)]) ∧ Below w.heap.size w w' := by
  unfold sysV
  go_enter Tryz.func25, Tryz.ntmps25
  go_wp2
  go_ret2
  exact ⟨rfl, (by repeat (first | with_reducible exact Below.refl _ _ | with_reducible assumption | refine below_drewN ?_ _ | refine Below.drew ?_ | refine Below.alloc ?_ (by first | (simp; done) | (simp; omega) | omega) _ | refine Below.setCell ?_ (by first | (simp; done) | (simp; omega) | omega) _ | refine Below.trans ?_ (Below.mono (by assumption) (by first | (simp; done) | (simp; omega) | omega))))⟩

set_option maxHeartbeats 400000 in
theorem check_none (n : Int) (a : Option Addr) (cap : Nat) (h0 : ¬ n < 1) (h1 : ¬ 60 < n) (w : World) :
    Calls Tryz.prog 25 #[sysV n a 0 cap] w fun e w' => e = .returned (.tuple #[.int .i64 0, .int .i64 (-1)]) ∧ Below w.heap.size w w' := by
  unfold sysV
  go_enter Tryz.func25, Tryz.ntmps25
  go_wp2
  refine wp_loop_rounds 1 ?_
  rw [rounds_succ]
  go_wp2
  go_ret2
  exact ⟨rfl, (by repeat (first | with_reducible exact Below.refl _ _ | with_reducible assumption | refine below_drewN ?_ _ | refine Below.drew ?_ | refine Below.alloc ?_ (by first | (simp; done) | (simp; omega) | omega) _ | refine Below.setCell ?_ (by first | (simp; done) | (simp; omega) | omega) _ | refine Below.trans ?_ (Below.mono (by assumption) (by first | (simp; done) | (simp; omega) | omega))))⟩

/-- Check -/
theorem check_any (n : Int) (a : Option Addr) (cap : Nat) (L : List Ch.Lk) (w : World) (hL : LksAt w a L) :
    Calls Tryz.prog 25 #[sysV n a L.length cap] w fun e w' => e = .returned (.tuple #[.int .i64 (Ch.check n L).1, .int .i64 (Ch.check n L).2]) ∧ Below w.heap.size w w' := by
  by_cases h : n < 1 ∨ 60 < n
  · rw [Ch.check_n h]; exact check_bad n a _ cap h w
  by_cases h2 : 300 < L.length
  · rw [Ch.check_l h h2]; exact check_long n a _ cap (by omega) (by omega) (by omega) w
  cases L with
  | nil =>
    rw [Ch.check_mid (by omega) (by omega) (by simp)]
    exact check_none n a cap (by omega) (by omega) w
  | cons l r =>
    obtain ⟨x, rfl, _⟩ := hL 0 (by simp)
    exact check_loop n x cap (l :: r) _ (Lib.hid rfl) (by omega) (by omega) (by omega) w (Lib.hid hL)
end Go.Proofs.YtemacokojdeimaaGreatDoor

/- Contracts of package chain: checkIndices, follow. -/
namespace Go.Proofs.YtemacokojdeimaaGreatDoor
open Go.RowKit

/-- numbers that lie in a row -/
def IntsAt (w : World) (a : Option Addr) (l : List Int) : Prop := ∀ k, k < l.length → ∃ x, a = some x ∧ w.cell? (x.add k) = some (.int .i64 (l.getD k 0))
theorem IntsAt.below {w W : World} {a : Option Addr} {l : List Int} (h : IntsAt w a l) (hb : Below w.heap.size w W) : IntsAt W a l := fun k hk => by
  obtain ⟨x, hx, h1⟩ := h k hk
  exact ⟨x, hx, kept1 h1 hb⟩

set_option maxHeartbeats 400000 in
theorem checkIx_long (n : Int) (a : Option Addr) (m cap : Nat) (b : Option Addr) (q cap2 : Nat) (h : (80 : Int) < (q : Int)) (w : World) :
    Calls Tryz.prog 49 #[sysV n a m cap, .slice b q cap2] w fun e w' => e = .returned (.int .i64 2) ∧ Below w.heap.size w w' := by
  unfold sysV
  go_enter Tryz.func49, Tryz.ntmps49
  go_wp2
  go_ret
  exact ⟨rfl, (by repeat (first | with_reducible exact Below.refl _ _ | with_reducible assumption | refine below_drewN ?_ _ | refine Below.drew ?_ | refine Below.alloc ?_ (by first | (simp; done) | (simp; omega) | omega) _ | refine Below.setCell ?_ (by first | (simp; done) | (simp; omega) | omega) _ | refine Below.trans ?_ (Below.mono (by assumption) (by first | (simp; done) | (simp; omega) | omega))))⟩

set_option maxHeartbeats 400000 in
theorem checkIx_none (n : Int) (a : Option Addr) (m cap : Nat) (b : Option Addr) (cap2 : Nat) (w : World) :
    Calls Tryz.prog 49 #[sysV n a m cap, .slice b 0 cap2] w fun e w' => e = .returned (.int .i64 0) ∧ Below w.heap.size w w' := by
  unfold sysV
  go_enter Tryz.func49, Tryz.ntmps49
  go_wp2
  refine wp_loop_rounds 1 ?_
  rw [rounds_succ]
  go_wp2
  go_ret
  exact ⟨rfl, (by repeat (first | with_reducible exact Below.refl _ _ | with_reducible assumption | refine below_drewN ?_ _ | refine Below.drew ?_ | refine Below.alloc ?_ (by first | (simp; done) | (simp; omega) | omega) _ | refine Below.setCell ?_ (by first | (simp; done) | (simp; omega) | omega) _ | refine Below.trans ?_ (Below.mono (by assumption) (by first | (simp; done) | (simp; omega) | omega))))⟩

set_option maxRecDepth 100000 in
set_option maxHeartbeats 2000000 in
theorem checkIx_loop (n : Int) (a : Option Addr) (m cap : Nat) (x : Addr) (q cap2 : Nat) (l : List Int) (hq : Hid (l.length = q)) (h : ¬ (80 : Int) < (q : Int)) (w : World) (hl : Hid (IntsAt w (some x) l)) :
    Calls Tryz.prog 49 #[sysV n a m cap, .slice (some x) q cap2] w fun e w' => e = .returned (.int .i64 (Ch.ixErr m l)) ∧ Below w.heap.size w w' := by
  have hq3 : q ≤ 80 := by omega
  have hx : Hid (Ch.ixErr m l = if l.all (fun i => Ch.isIx i m) then 0 else 1) := Lib.hid (by unfold Ch.ixErr; rw [if_neg (by have := hq.out; omega)])
  unfold sysV
  go_enter Tryz.func49, Tryz.ntmps49
  go_wp2
  go_loopw [12] (fun i wr => ∃ k : Nat, k ≤ q ∧ i = .int .i64 k ∧ wr.cell? ⟨w.heap.size, 1, none⟩ = some (.slice a m cap) ∧ Below w.heap.size w wr ∧ w.heap.size < wr.heap.size ∧ Hid (l.all (fun i => Ch.isIx i m) = (l.drop k).all (fun i => Ch.isIx i m))) (fun i _ => q - (RowKit.intOf i).toNat)
  case atStart => exact ⟨0, Nat.zero_le _, rfl, by simp [go_sem], (by repeat (first | with_reducible exact Below.refl _ _ | with_reducible assumption | refine below_drewN ?_ _ | refine Below.drew ?_ | refine Below.alloc ?_ (by first | (simp; done) | (simp; omega) | omega) _ | refine Below.setCell ?_ (by first | (simp; done) | (simp; omega) | omega) _ | refine Below.trans ?_ (Below.mono (by assumption) (by first | (simp; done) | (simp; omega) | omega)))), by simp, Lib.hid rfl⟩
  case round =>
    obtain ⟨k, hk, rfl, hn, hb, hsz, hall⟩ := hrel
    by_cases hlt : k < q
    · obtain ⟨x', hx', hcx⟩ := (hl.out k (by have := hq.out; omega))
      obtain rfl := Option.some.inj hx'
      have hc0 := (hb.cell (block_lt_of_cell hcx)).trans hcx
      have hst := Ch.all_at (p := fun i => Ch.isIx i m) (l := l) (k := k) (by have := hq.out; omega)
      obtain ⟨z, hz⟩ : ∃ z, l.getD k 0 = z := ⟨_, rfl⟩
      rw [hz] at hc0 hst
      clear hcx hz
      have hi5 : (k : Int) < (q : Int) := by omega
      have HV := isIndex_any z m
      cases hv : Ch.isIx z m
      · rw [hv] at HV hst
        replace HV := Lib.hid HV
        replace hst := Lib.hid hst
        go_wp2_with (go_at_call 38; refine (HV.out _).mono ?_; rintro e w1 ⟨rfl, hb1⟩; subst hb1)
        go_ret
        refine ⟨?_, (by repeat (first | with_reducible exact Below.refl _ _ | with_reducible assumption | refine below_drewN ?_ _ | refine Below.drew ?_ | refine Below.alloc ?_ (by first | (simp; done) | (simp; omega) | omega) _ | refine Below.setCell ?_ (by first | (simp; done) | (simp; omega) | omega) _ | refine Below.trans ?_ (Below.mono (by assumption) (by first | (simp; done) | (simp; omega) | omega))))⟩
        rw [hx.out, hall.out, hst.out]
        simp
      · rw [hv] at HV hst
        replace HV := Lib.hid HV
        replace hst := Lib.hid hst
        go_wp2_with (go_at_call 38; refine (HV.out _).mono ?_; rintro e w1 ⟨rfl, hb1⟩; subst hb1)
        go_roundw
        case rel => exact ⟨k + 1, by omega, by go_num, hn, hb, hsz, Lib.hid (by rw [hall.out, hst.out]; simp)⟩
        case measure => first | (simp [RowKit.intOf]; done) | (simp [RowKit.intOf]; omega) | omega
    · obtain rfl : k = q := by omega
      have hi5 : ¬ (k : Int) < (k : Int) := by omega
      have hb9 : Hid (l.all (fun i => Ch.isIx i m) = true) := Lib.hid (by rw [hall.out, List.drop_eq_nil_of_le (by have := hq.out; omega)]; rfl)
      clear hall
      go_wp2
      go_ret
      refine ⟨?_, (by repeat (first | with_reducible exact Below.refl _ _ | with_reducible assumption | refine below_drewN ?_ _ | refine Below.drew ?_ | refine Below.alloc ?_ (by first | (simp; done) | (simp; omega) | omega) _ | refine Below.setCell ?_ (by first | (simp; done) | (simp; omega) | omega) _ | refine Below.trans ?_ (Below.mono (by assumption) (by first | (simp; done) | (simp; omega) | omega))))⟩
      rw [hx.out, hb9.out]
      rfl

theorem checkIx_any (n : Int) (a : Option Addr) (m cap : Nat) (b : Option Addr) (cap2 : Nat) (l : List Int) (w : World) (hl : IntsAt w b l) :
    Calls Tryz.prog 49 #[sysV n a m cap, .slice b l.length cap2] w fun e w' => e = .returned (.int .i64 (Ch.ixErr m l)) ∧ Below w.heap.size w w' := by
  by_cases h : 80 < l.length
  · rw [show Ch.ixErr m l = 2 by unfold Ch.ixErr; rw [if_pos h]]
    exact checkIx_long n a m cap b _ cap2 (by omega) w
  · cases l with
    | nil => exact checkIx_none n a m cap b cap2 w
    | cons z r =>
      obtain ⟨x, rfl, _⟩ := hl 0 (by simp)
      exact checkIx_loop n a m cap x _ cap2 (z :: r) (Lib.hid rfl) (by omega) w (Lib.hid hl)

set_option maxHeartbeats 400000 in
theorem follow_none (n : Int) (a : Option Addr) (m cap : Nat) (u v : Int) (b : Option Addr) (cap2 : Nat) (w : World) :
    Calls Tryz.prog 50 #[sysV n a m cap, .int .i64 u, .int .i64 v, .slice b 0 cap2] w fun e w' => e = .returned (.tuple #[.int .i64 0, .bool (u == v)]) ∧ Below w.heap.size w w' := by
  unfold sysV
  go_enter Tryz.func50, Tryz.ntmps50
  go_wp2
  refine wp_loop_rounds 1 ?_
  rw [rounds_succ]
  go_wp2
  go_ret2
  exact ⟨rfl, (by repeat (first | with_reducible exact Below.refl _ _ | with_reducible assumption | refine below_drewN ?_ _ | refine Below.drew ?_ | refine Below.alloc ?_ (by first | (simp; done) | (simp; omega) | omega) _ | refine Below.setCell ?_ (by first | (simp; done) | (simp; omega) | omega) _ | refine Below.trans ?_ (Below.mono (by assumption) (by first | (simp; done) | (simp; omega) | omega))))⟩

set_option maxRecDepth 100000 in
set_option maxHeartbeats 2000000 in
theorem follow_loop (n : Int) (y : Addr) (m cap : Nat) (L : List Ch.Lk) (hm : Hid (L.length = m)) (hok : Hid (∀ j, j < L.length → Ch.okLk n (L.getD j Ch.noLk) = true)) (u v : Int) (x : Addr) (q cap2 : Nat) (l : List Int) (hq : Hid (l.length = q)) (hq3 : q ≤ 80)
    (hix : Hid (∀ k, k < l.length → 0 ≤ l.getD k 0 ∧ l.getD k 0 < (m : Int))) (w : World) (hL : Hid (LksAt w (some y) L)) (hl : Hid (IntsAt w (some x) l)) :
    Calls Tryz.prog 50 #[sysV n (some y) m cap, .int .i64 u, .int .i64 v, .slice (some x) q cap2] w fun e w' => e = .returned (.tuple #[.int .i64 (Ch.follow L v l u 0).1, .bool (Ch.follow L v l u 0).2]) ∧ Below w.heap.size w w' := by
  obtain ⟨R, hR⟩ : ∃ R, Ch.follow L v l u 0 = R := ⟨_, rfl⟩
  rw [hR]
  replace hR := Lib.hid hR
  unfold sysV
  go_enter Tryz.func50, Tryz.ntmps50
  go_wp2
  go_loopw [15, 1, 10] (fun i c s wr => ∃ (k : Nat) (p z : Int), k ≤ q ∧ i = .int .i64 k ∧ c = .int .i64 p ∧ s = .int .i64 z ∧ -4503599627370496 * (k : Int) ≤ z ∧ z ≤ 4503599627370496 * (k : Int) ∧ wr.cell? ⟨w.heap.size, 1, none⟩ = some (.slice (some y) m cap) ∧ Below w.heap.size w wr ∧ w.heap.size < wr.heap.size ∧ Hid (Ch.follow L v (l.drop k) p z = R)) (fun i _ _ _ => q - (RowKit.intOf i).toNat)
  case atStart => exact ⟨0, u, 0, Nat.zero_le _, rfl, rfl, rfl, by omega, by omega, by simp [go_sem], (by repeat (first | with_reducible exact Below.refl _ _ | with_reducible assumption | refine below_drewN ?_ _ | refine Below.drew ?_ | refine Below.alloc ?_ (by first | (simp; done) | (simp; omega) | omega) _ | refine Below.setCell ?_ (by first | (simp; done) | (simp; omega) | omega) _ | refine Below.trans ?_ (Below.mono (by assumption) (by first | (simp; done) | (simp; omega) | omega)))), by simp, hR⟩
  case round =>
    obtain ⟨k, p, z, hk, rfl, rfl, rfl, hz0, hz1, hn, hb, hsz, hfo⟩ := hrel
    by_cases hlt : k < q
    · obtain ⟨x', hx', hcx⟩ := (hl.out k (by have := hq.out; omega))
      obtain rfl := Option.some.inj hx'
      have hc0 := (hb.cell (block_lt_of_cell hcx)).trans hcx
      have hst := Ch.follow_at (L := L) (v := v) (u := p) (sum := z) (l := l) (k := k) (by have := hq.out; omega)
      rw [hfo.out] at hst
      have hj := hix.out k (by have := hq.out; omega)
      obtain ⟨j, hj2⟩ : ∃ j : Nat, l.getD k 0 = (j : Int) := ⟨(l.getD k 0).toNat, by omega⟩
      rw [hj2] at hc0 hst hj
      have hjm : (j : Int) < (m : Int) := hj.2
      obtain ⟨y', hy', hl3⟩ := hL.out j (by have := hm.out; omega)
      obtain rfl := Option.some.inj hy'
      have hok1 := Ch.okLk_spec (hok.out j (by have := hm.out; omega))
      rw [show ((j : Int)).toNat = j from rfl] at hst
      obtain ⟨f, t, mo, hlk⟩ : ∃ f t mo, L.getD j Ch.noLk = ⟨f, t, mo⟩ := ⟨_, _, _, rfl⟩
      have ⟨g0, g1, g2⟩ := hl3.below hb
      rw [hlk] at g0 g1 g2 hst hok1
      simp only at hst hok1 g0 g1 g2
      obtain ⟨_, _, _, _, _, o6, o7⟩ := hok1
      clear hl3 hcx hj hj2 hlk hfo
      have hi5 : (k : Int) < (q : Int) := by omega
      have hk80 : (k : Int) ≤ 80 := by omega
      by_cases hfp : f = p
      · subst hfp
        have hst2 : Hid (R = Ch.follow L v (l.drop (k + 1)) t (z + mo)) := Lib.hid (by rw [hst]; simp)
        clear hst
        go_wp2
        go_roundw
        case rel => exact ⟨k + 1, t, z + mo, by omega, by go_num, rfl, by go_num, by omega, by omega, hn, hb, hsz, Lib.hid hst2.out.symm⟩
        case measure => first | (simp [RowKit.intOf]; done) | (simp [RowKit.intOf]; omega) | omega
      · have hne : (f != p) = true := by rw [bne_iff_ne]; exact hfp
        have hst2 : Hid (R = (0, false)) := Lib.hid (by rw [hst, hne]; simp)
        clear hst
        go_wp2
        go_ret2
        exact ⟨by rw [hst2.out]; rfl, (by repeat (first | with_reducible exact Below.refl _ _ | with_reducible assumption | refine below_drewN ?_ _ | refine Below.drew ?_ | refine Below.alloc ?_ (by first | (simp; done) | (simp; omega) | omega) _ | refine Below.setCell ?_ (by first | (simp; done) | (simp; omega) | omega) _ | refine Below.trans ?_ (Below.mono (by assumption) (by first | (simp; done) | (simp; omega) | omega))))⟩
    · obtain rfl : k = q := by omega
      have hi5 : ¬ (k : Int) < (k : Int) := by omega
      have hb9 : Hid (R = (z, p == v)) := Lib.hid (by rw [← hfo.out, List.drop_eq_nil_of_le (by have := hq.out; omega)]; rfl)
      clear hfo
      go_wp2
      go_ret2
      refine ⟨?_, (by repeat (first | with_reducible exact Below.refl _ _ | with_reducible assumption | refine below_drewN ?_ _ | refine Below.drew ?_ | refine Below.alloc ?_ (by first | (simp; done) | (simp; omega) | omega) _ | refine Below.setCell ?_ (by first | (simp; done) | (simp; omega) | omega) _ | refine Below.trans ?_ (Below.mono (by assumption) (by first | (simp; done) | (simp; omega) | omega))))⟩
      rw [hb9.out]
      rfl
end Go.Proofs.YtemacokojdeimaaGreatDoor

/- Contracts of package chain: CheckClash, CheckChain. -/
namespace Go.Proofs.YtemacokojdeimaaGreatDoor
open Go.RowKit

set_option maxRecDepth 100000 in
set_option maxHeartbeats 1000000 in
theorem clash_bad (n : Int) (a : Option Addr) (m cap : Nat) (b : Option Addr) (q cap2 : Nat) (ec at1 : Int) (hec : ¬ ec = 0) (w : World) (HC : Hid (∀ W : World, Below w.heap.size w W → Calls Tryz.prog 25 #[.agg #[.int .i64 n, .slice a m cap]] W fun e w' => e = .returned (.tuple #[.int .i64 ec, .int .i64 at1]) ∧ Below W.heap.size W w')) :
    Calls Tryz.prog 24 #[.agg #[.int .i64 n, .slice a m cap], .slice b q cap2] w fun e w' => e = .returned (.int .i64 ec) ∧ Below w.heap.size w w' := by
  go_enter Tryz.func24, Tryz.ntmps24
  go_wp2_with fail
  refine (HC.out _ (below_alloc (Below.refl _ _) _)).mono ?_
  rintro e w1 ⟨rfl, hb1⟩
  have k1_0 : w1.cell? ⟨w.heap.size, 0, none⟩ = some (.int .i64 n) := kept1 (by simp [go_sem]) hb1
  have k1_1 : w1.cell? ⟨w.heap.size, 1, none⟩ = some (.slice a m cap) := kept1 (by simp [go_sem]) hb1
  have hv1 : Below w.heap.size w w1 := bstep1 (Below.refl _ _) hb1
  have lk1 := block_lt_of_cell k1_0
  clear hb1
  go_wp2
  go_ret
  exact ⟨by first | rfl | (simp; done) | (simp; omega), (by repeat (first | with_reducible exact Below.refl _ _ | with_reducible assumption | refine below_drewN ?_ _ | refine Below.drew ?_ | refine Below.alloc ?_ (by first | (simp; done) | (simp; omega) | omega) _ | refine Below.setCell ?_ (by first | (simp; done) | (simp; omega) | omega) _ | refine Below.trans ?_ (Below.mono (by assumption) (by first | (simp; done) | (simp; omega) | omega))))⟩

set_option maxRecDepth 100000 in
set_option maxHeartbeats 1000000 in
theorem clash_ix (n : Int) (a : Option Addr) (m cap : Nat) (b : Option Addr) (q cap2 : Nat) (at1 ex : Int) (hex : ¬ ex = 0) (w : World) (HC : Hid (∀ W : World, Below w.heap.size w W → Calls Tryz.prog 25 #[.agg #[.int .i64 n, .slice a m cap]] W fun e w' => e = .returned (.tuple #[.int .i64 0, .int .i64 at1]) ∧ Below W.heap.size W w')) (HX : Hid (∀ W : World, Below w.heap.size w W → Calls Tryz.prog 49 #[.agg #[.int .i64 n, .slice a m cap], .slice b q cap2] W fun e w' => e = .returned (.int .i64 ex) ∧ Below W.heap.size W w')) :
    Calls Tryz.prog 24 #[.agg #[.int .i64 n, .slice a m cap], .slice b q cap2] w fun e w' => e = .returned (.int .i64 ex) ∧ Below w.heap.size w w' := by
  go_enter Tryz.func24, Tryz.ntmps24
  go_wp2_with fail
  refine (HC.out _ (below_alloc (Below.refl _ _) _)).mono ?_
  rintro e w1 ⟨rfl, hb1⟩
  have k1_0 : w1.cell? ⟨w.heap.size, 0, none⟩ = some (.int .i64 n) := kept1 (by simp [go_sem]) hb1
  have k1_1 : w1.cell? ⟨w.heap.size, 1, none⟩ = some (.slice a m cap) := kept1 (by simp [go_sem]) hb1
  have hv1 : Below w.heap.size w w1 := bstep1 (Below.refl _ _) hb1
  have lk1 := block_lt_of_cell k1_0
  clear hb1
  go_wp2_with fail
  refine (HX.out _ hv1).mono ?_
  rintro e w2 ⟨rfl, hb2⟩
  have k2_0 : w2.cell? ⟨w.heap.size, 0, none⟩ = some (.int .i64 n) := kept1 k1_0 hb2
  have k2_1 : w2.cell? ⟨w.heap.size, 1, none⟩ = some (.slice a m cap) := kept1 k1_1 hb2
  have hv2 : Below w.heap.size w w2 := bstep0 hv1 hb2
  have lk2 := block_lt_of_cell k2_0
  clear hb2 hv1 k1_0 k1_1 lk1
  go_wp2
  go_ret
  exact ⟨by first | rfl | (simp; done) | (simp; omega), (by repeat (first | with_reducible exact Below.refl _ _ | with_reducible assumption | refine below_drewN ?_ _ | refine Below.drew ?_ | refine Below.alloc ?_ (by first | (simp; done) | (simp; omega) | omega) _ | refine Below.setCell ?_ (by first | (simp; done) | (simp; omega) | omega) _ | refine Below.trans ?_ (Below.mono (by assumption) (by first | (simp; done) | (simp; omega) | omega))))⟩

set_option maxRecDepth 100000 in
set_option maxHeartbeats 1000000 in
theorem clash_none (n : Int) (a : Option Addr) (m cap : Nat) (b : Option Addr) (cap2 : Nat) (at1 : Int) (w : World) (HC : Hid (∀ W : World, Below w.heap.size w W → Calls Tryz.prog 25 #[.agg #[.int .i64 n, .slice a m cap]] W fun e w' => e = .returned (.tuple #[.int .i64 0, .int .i64 at1]) ∧ Below W.heap.size W w')) (HX : Hid (∀ W : World, Below w.heap.size w W → Calls Tryz.prog 49 #[.agg #[.int .i64 n, .slice a m cap], .slice b 0 cap2] W fun e w' => e = .returned (.int .i64 0) ∧ Below W.heap.size W w')) :
    Calls Tryz.prog 24 #[.agg #[.int .i64 n, .slice a m cap], .slice b 0 cap2] w fun e w' => e = .returned (.int .i64 8) ∧ Below w.heap.size w w' := by
  go_enter Tryz.func24, Tryz.ntmps24
  go_wp2_with fail
  refine (HC.out _ (below_alloc (Below.refl _ _) _)).mono ?_
  rintro e w1 ⟨rfl, hb1⟩
  have k1_0 : w1.cell? ⟨w.heap.size, 0, none⟩ = some (.int .i64 n) := kept1 (by simp [go_sem]) hb1
  have k1_1 : w1.cell? ⟨w.heap.size, 1, none⟩ = some (.slice a m cap) := kept1 (by simp [go_sem]) hb1
  have hv1 : Below w.heap.size w w1 := bstep1 (Below.refl _ _) hb1
  have lk1 := block_lt_of_cell k1_0
  clear hb1
  go_wp2_with fail
  refine (HX.out _ hv1).mono ?_
  rintro e w2 ⟨rfl, hb2⟩
  have k2_0 : w2.cell? ⟨w.heap.size, 0, none⟩ = some (.int .i64 n) := kept1 k1_0 hb2
  have k2_1 : w2.cell? ⟨w.heap.size, 1, none⟩ = some (.slice a m cap) := kept1 k1_1 hb2
  have hv2 : Below w.heap.size w w2 := bstep0 hv1 hb2
  have lk2 := block_lt_of_cell k2_0
  clear hb2 hv1 k1_0 k1_1 lk1
  go_wp2
  go_ret
  exact ⟨by first | rfl | (simp; done) | (simp; omega), (by repeat (first | with_reducible exact Below.refl _ _ | with_reducible assumption | refine below_drewN ?_ _ | refine Below.drew ?_ | refine Below.alloc ?_ (by first | (simp; done) | (simp; omega) | omega) _ | refine Below.setCell ?_ (by first | (simp; done) | (simp; omega) | omega) _ | refine Below.trans ?_ (Below.mono (by assumption) (by first | (simp; done) | (simp; omega) | omega))))⟩

set_option maxRecDepth 100000 in
set_option maxHeartbeats 1000000 in
theorem clash_no (n : Int) (y : Addr) (m cap : Nat) (x : Addr) (q cap2 : Nat) (hq : 0 < q) (at1 : Int) (j : Nat) (hj : (j : Int) < (m : Int)) (f sum : Int)  (w : World) (HC : Hid (∀ W : World, Below w.heap.size w W → Calls Tryz.prog 25 #[.agg #[.int .i64 n, .slice (some y) m cap]] W fun e w' => e = .returned (.tuple #[.int .i64 0, .int .i64 at1]) ∧ Below W.heap.size W w')) (HX : Hid (∀ W : World, Below w.heap.size w W → Calls Tryz.prog 49 #[.agg #[.int .i64 n, .slice (some y) m cap], .slice (some x) q cap2] W fun e w' => e = .returned (.int .i64 0) ∧ Below W.heap.size W w')) (HF : Hid (∀ W : World, Below w.heap.size w W → Calls Tryz.prog 50 #[.agg #[.int .i64 n, .slice (some y) m cap], .int .i64 f, .int .i64 f, .slice (some x) q cap2] W fun e w' => e = .returned (.tuple #[.int .i64 sum, .bool false]) ∧ Below W.heap.size W w')) (hc0 : Hid (∀ W : World, Below w.heap.size w W → W.cell? x = some (.int .i64 j))) (hc1 : Hid (∀ W : World, Below w.heap.size w W → W.cell? (y.add (j * 3)) = some (.int .i64 f))) :
    Calls Tryz.prog 24 #[.agg #[.int .i64 n, .slice (some y) m cap], .slice (some x) q cap2] w fun e w' => e = .returned (.int .i64 8) ∧ Below w.heap.size w w' := by
  go_enter Tryz.func24, Tryz.ntmps24
  go_wp2_with fail
  refine (HC.out _ (below_alloc (Below.refl _ _) _)).mono ?_
  rintro e w1 ⟨rfl, hb1⟩
  have k1_0 : w1.cell? ⟨w.heap.size, 0, none⟩ = some (.int .i64 n) := kept1 (by simp [go_sem]) hb1
  have k1_1 : w1.cell? ⟨w.heap.size, 1, none⟩ = some (.slice (some y) m cap) := kept1 (by simp [go_sem]) hb1
  have hv1 : Below w.heap.size w w1 := bstep1 (Below.refl _ _) hb1
  have lk1 := block_lt_of_cell k1_0
  clear hb1
  go_wp2_with fail
  refine (HX.out _ hv1).mono ?_
  rintro e w2 ⟨rfl, hb2⟩
  have k2_0 : w2.cell? ⟨w.heap.size, 0, none⟩ = some (.int .i64 n) := kept1 k1_0 hb2
  have k2_1 : w2.cell? ⟨w.heap.size, 1, none⟩ = some (.slice (some y) m cap) := kept1 k1_1 hb2
  have hv2 : Below w.heap.size w w2 := bstep0 hv1 hb2
  have lk2 := block_lt_of_cell k2_0
  clear hb2 hv1 k1_0 k1_1 lk1
  have g0 := hc0.out _ hv2
  have g1 := hc1.out _ hv2
  have i1 : (0 : Int) < (q : Int) := by omega
  go_wp2_with fail
  go_region
  go_wp2_with fail
  refine (HF.out _ hv2.drew).mono ?_
  rintro e w3 ⟨rfl, hb3⟩
  have k3_0 : w3.cell? ⟨w.heap.size, 0, none⟩ = some (.int .i64 n) := kept1 (W := w2.drew) k2_0 hb3
  have k3_1 : w3.cell? ⟨w.heap.size, 1, none⟩ = some (.slice (some y) m cap) := kept1 (W := w2.drew) k2_1 hb3
  have hv3 : Below w.heap.size w w3 := bstep0 hv2.drew hb3
  have lk3 := block_lt_of_cell k3_0
  clear hb3 g0 g1 hv2 k2_0 k2_1 lk2
  go_wp2
  go_ret
  exact ⟨by first | rfl | (simp; done) | (simp; omega), (by repeat (first | with_reducible exact Below.refl _ _ | with_reducible assumption | refine below_drewN ?_ _ | refine Below.drew ?_ | refine Below.alloc ?_ (by first | (simp; done) | (simp; omega) | omega) _ | refine Below.setCell ?_ (by first | (simp; done) | (simp; omega) | omega) _ | refine Below.trans ?_ (Below.mono (by assumption) (by first | (simp; done) | (simp; omega) | omega))))⟩

set_option maxRecDepth 100000 in
set_option maxHeartbeats 1000000 in
theorem clash_high (n : Int) (y : Addr) (m cap : Nat) (x : Addr) (q cap2 : Nat) (hq : 0 < q) (at1 : Int) (j : Nat) (hj : (j : Int) < (m : Int)) (f sum : Int) (hs : 0 ≤ sum) (w : World) (HC : Hid (∀ W : World, Below w.heap.size w W → Calls Tryz.prog 25 #[.agg #[.int .i64 n, .slice (some y) m cap]] W fun e w' => e = .returned (.tuple #[.int .i64 0, .int .i64 at1]) ∧ Below W.heap.size W w')) (HX : Hid (∀ W : World, Below w.heap.size w W → Calls Tryz.prog 49 #[.agg #[.int .i64 n, .slice (some y) m cap], .slice (some x) q cap2] W fun e w' => e = .returned (.int .i64 0) ∧ Below W.heap.size W w')) (HF : Hid (∀ W : World, Below w.heap.size w W → Calls Tryz.prog 50 #[.agg #[.int .i64 n, .slice (some y) m cap], .int .i64 f, .int .i64 f, .slice (some x) q cap2] W fun e w' => e = .returned (.tuple #[.int .i64 sum, .bool true]) ∧ Below W.heap.size W w')) (hc0 : Hid (∀ W : World, Below w.heap.size w W → W.cell? x = some (.int .i64 j))) (hc1 : Hid (∀ W : World, Below w.heap.size w W → W.cell? (y.add (j * 3)) = some (.int .i64 f))) :
    Calls Tryz.prog 24 #[.agg #[.int .i64 n, .slice (some y) m cap], .slice (some x) q cap2] w fun e w' => e = .returned (.int .i64 8) ∧ Below w.heap.size w w' := by
  go_enter Tryz.func24, Tryz.ntmps24
  go_wp2_with fail
  refine (HC.out _ (below_alloc (Below.refl _ _) _)).mono ?_
  rintro e w1 ⟨rfl, hb1⟩
  have k1_0 : w1.cell? ⟨w.heap.size, 0, none⟩ = some (.int .i64 n) := kept1 (by simp [go_sem]) hb1
  have k1_1 : w1.cell? ⟨w.heap.size, 1, none⟩ = some (.slice (some y) m cap) := kept1 (by simp [go_sem]) hb1
  have hv1 : Below w.heap.size w w1 := bstep1 (Below.refl _ _) hb1
  have lk1 := block_lt_of_cell k1_0
  clear hb1
  go_wp2_with fail
  refine (HX.out _ hv1).mono ?_
  rintro e w2 ⟨rfl, hb2⟩
  have k2_0 : w2.cell? ⟨w.heap.size, 0, none⟩ = some (.int .i64 n) := kept1 k1_0 hb2
  have k2_1 : w2.cell? ⟨w.heap.size, 1, none⟩ = some (.slice (some y) m cap) := kept1 k1_1 hb2
  have hv2 : Below w.heap.size w w2 := bstep0 hv1 hb2
  have lk2 := block_lt_of_cell k2_0
  clear hb2 hv1 k1_0 k1_1 lk1
  have g0 := hc0.out _ hv2
  have g1 := hc1.out _ hv2
  have i1 : (0 : Int) < (q : Int) := by omega
  go_wp2_with fail
  go_region
  go_wp2_with fail
  refine (HF.out _ hv2.drew).mono ?_
  rintro e w3 ⟨rfl, hb3⟩
  have k3_0 : w3.cell? ⟨w.heap.size, 0, none⟩ = some (.int .i64 n) := kept1 (W := w2.drew) k2_0 hb3
  have k3_1 : w3.cell? ⟨w.heap.size, 1, none⟩ = some (.slice (some y) m cap) := kept1 (W := w2.drew) k2_1 hb3
  have hv3 : Below w.heap.size w w3 := bstep0 hv2.drew hb3
  have lk3 := block_lt_of_cell k3_0
  clear hb3 g0 g1 hv2 k2_0 k2_1 lk2
  go_wp2
  go_ret
  exact ⟨by first | rfl | (simp; done) | (simp; omega), (by repeat (first | with_reducible exact Below.refl _ _ | with_reducible assumption | refine below_drewN ?_ _ | refine Below.drew ?_ | refine Below.alloc ?_ (by first | (simp; done) | (simp; omega) | omega) _ | refine Below.setCell ?_ (by first | (simp; done) | (simp; omega) | omega) _ | refine Below.trans ?_ (Below.mono (by assumption) (by first | (simp; done) | (simp; omega) | omega))))⟩

set_option maxRecDepth 100000 in
set_option maxHeartbeats 1000000 in
theorem clash_yes (n : Int) (y : Addr) (m cap : Nat) (x : Addr) (q cap2 : Nat) (hq : 0 < q) (at1 : Int) (j : Nat) (hj : (j : Int) < (m : Int)) (f sum : Int) (hs : sum < 0) (w : World) (HC : Hid (∀ W : World, Below w.heap.size w W → Calls Tryz.prog 25 #[.agg #[.int .i64 n, .slice (some y) m cap]] W fun e w' => e = .returned (.tuple #[.int .i64 0, .int .i64 at1]) ∧ Below W.heap.size W w')) (HX : Hid (∀ W : World, Below w.heap.size w W → Calls Tryz.prog 49 #[.agg #[.int .i64 n, .slice (some y) m cap], .slice (some x) q cap2] W fun e w' => e = .returned (.int .i64 0) ∧ Below W.heap.size W w')) (HF : Hid (∀ W : World, Below w.heap.size w W → Calls Tryz.prog 50 #[.agg #[.int .i64 n, .slice (some y) m cap], .int .i64 f, .int .i64 f, .slice (some x) q cap2] W fun e w' => e = .returned (.tuple #[.int .i64 sum, .bool true]) ∧ Below W.heap.size W w')) (hc0 : Hid (∀ W : World, Below w.heap.size w W → W.cell? x = some (.int .i64 j))) (hc1 : Hid (∀ W : World, Below w.heap.size w W → W.cell? (y.add (j * 3)) = some (.int .i64 f))) :
    Calls Tryz.prog 24 #[.agg #[.int .i64 n, .slice (some y) m cap], .slice (some x) q cap2] w fun e w' => e = .returned (.int .i64 0) ∧ Below w.heap.size w w' := by
  go_enter Tryz.func24, Tryz.ntmps24
  go_wp2_with fail
  refine (HC.out _ (below_alloc (Below.refl _ _) _)).mono ?_
  rintro e w1 ⟨rfl, hb1⟩
  have k1_0 : w1.cell? ⟨w.heap.size, 0, none⟩ = some (.int .i64 n) := kept1 (by simp [go_sem]) hb1
  have k1_1 : w1.cell? ⟨w.heap.size, 1, none⟩ = some (.slice (some y) m cap) := kept1 (by simp [go_sem]) hb1
  have hv1 : Below w.heap.size w w1 := bstep1 (Below.refl _ _) hb1
  have lk1 := block_lt_of_cell k1_0
  clear hb1
  go_wp2_with fail
  refine (HX.out _ hv1).mono ?_
  rintro e w2 ⟨rfl, hb2⟩
  have k2_0 : w2.cell? ⟨w.heap.size, 0, none⟩ = some (.int .i64 n) := kept1 k1_0 hb2
  have k2_1 : w2.cell? ⟨w.heap.size, 1, none⟩ = some (.slice (some y) m cap) := kept1 k1_1 hb2
  have hv2 : Below w.heap.size w w2 := bstep0 hv1 hb2
  have lk2 := block_lt_of_cell k2_0
  clear hb2 hv1 k1_0 k1_1 lk1
  have g0 := hc0.out _ hv2
  have g1 := hc1.out _ hv2
  have i1 : (0 : Int) < (q : Int) := by omega
  go_wp2_with fail
  go_region
  go_wp2_with fail
  refine (HF.out _ hv2.drew).mono ?_
  rintro e w3 ⟨rfl, hb3⟩
  have k3_0 : w3.cell? ⟨w.heap.size, 0, none⟩ = some (.int .i64 n) := kept1 (W := w2.drew) k2_0 hb3
  have k3_1 : w3.cell? ⟨w.heap.size, 1, none⟩ = some (.slice (some y) m cap) := kept1 (W := w2.drew) k2_1 hb3
  have hv3 : Below w.heap.size w w3 := bstep0 hv2.drew hb3
  have lk3 := block_lt_of_cell k3_0
  clear hb3 g0 g1 hv2 k2_0 k2_1 lk2
  go_wp2
  go_ret
  exact ⟨by first | rfl | (simp; done) | (simp; omega), (by repeat (first | with_reducible exact Below.refl _ _ | with_reducible assumption | refine below_drewN ?_ _ | refine Below.drew ?_ | refine Below.alloc ?_ (by first | (simp; done) | (simp; omega) | omega) _ | refine Below.setCell ?_ (by first | (simp; done) | (simp; omega) | omega) _ | refine Below.trans ?_ (Below.mono (by assumption) (by first | (simp; done) | (simp; omega) | omega))))⟩

/-- CheckClash -/
theorem checkClash_any (n : Int) (a : Option Addr) (cap : Nat) (L : List Ch.Lk) (b : Option Addr) (cap2 : Nat) (l : List Int) (w : World) (hL : LksAt w a L) (hl : IntsAt w b l) :
    Calls Tryz.prog 24 #[sysV n a L.length cap, .slice b l.length cap2] w fun e w' => e = .returned (.int .i64 (Ch.checkClash n L l)) ∧ Below w.heap.size w w' := by
  have HC := Lib.hid fun (W : World) (hb : Below w.heap.size w W) => check_any n a cap L W (hL.below hb)
  have HX := Lib.hid fun (W : World) (hb : Below w.heap.size w W) => checkIx_any n a L.length cap b cap2 l W (hl.below hb)
  unfold Ch.checkClash
  by_cases h : (Ch.check n L).1 = 0
  · rw [if_neg (by omega)]
    rw [h] at HC
    by_cases h2 : Ch.ixErr L.length l = 0
    · rw [if_neg (by omega)]
      rw [h2] at HX
      cases l with
      | nil => rw [if_pos rfl]; exact clash_none n a _ cap b cap2 _ w HC HX
      | cons z r =>
        rw [if_neg (by simp)]
        obtain ⟨q1, q2⟩ := Ch.ix_ok h2
        obtain ⟨x, rfl, hx⟩ := hl 0 (by simp)
        have hz := q2 0 (by simp)
        obtain ⟨j, hj⟩ : ∃ j : Nat, (z :: r).getD 0 0 = (j : Int) := ⟨((z :: r).getD 0 0).toNat, by omega⟩
        have hx0 : x.add 0 = x := by unfold Addr.add; split <;> simp_all
        rw [hj, hx0] at hx
        obtain ⟨y, rfl, hy⟩ := hL j (by omega)
        have hok := (Ch.check_ok h).2.2.2
        have hst : Ch.start L (z :: r) = (L.getD j Ch.noLk).f := by unfold Ch.start; rw [hj]; rfl
        rw [hst]
        have HF := Lib.hid fun (W : World) (hb : Below w.heap.size w W) => follow_loop n y L.length cap L (Lib.hid rfl) (Lib.hid hok) (L.getD j Ch.noLk).f (L.getD j Ch.noLk).f x (z :: r).length cap2 (z :: r) (Lib.hid rfl) q1 (Lib.hid q2) W (Lib.hid (hL.below hb)) (Lib.hid (hl.below hb))
        have c0 := Lib.hid fun (W : World) (hb : Below w.heap.size w W) => (hb.cell (block_lt_of_cell hx)).trans hx
        have c1 := Lib.hid fun (W : World) (hb : Below w.heap.size w W) => (hb.cell (block_lt_of_cell hy.1)).trans hy.1
        generalize Ch.follow L (L.getD j Ch.noLk).f (z :: r) (L.getD j Ch.noLk).f 0 = R at *
        obtain ⟨sum, ok⟩ := R
        cases ok
        · rw [if_neg (by simp)]
          exact clash_no n y _ cap x _ cap2 (by simp) _ j (by omega) _ sum w HC HX HF c0 c1
        · by_cases hs : sum < 0
          · rw [if_pos ⟨rfl, hs⟩]
            exact clash_yes n y _ cap x _ cap2 (by simp) _ j (by omega) _ sum hs w HC HX HF c0 c1
          · rw [if_neg (fun h => hs h.2)]
            exact clash_high n y _ cap x _ cap2 (by simp) _ j (by omega) _ sum (by omega) w HC HX HF c0 c1
    · rw [if_pos h2]
      exact clash_ix n a _ cap b _ cap2 _ _ h2 w HC HX
  · rw [if_pos h]
    exact clash_bad n a _ cap b _ cap2 _ _ h w HC
end Go.Proofs.YtemacokojdeimaaGreatDoor

/- Package chain, mirrored: what is enough fuel, and the functions that rest on settle. -/
namespace Ch

/-- levels ends, and if it finds levels, so do all searches for bounds, within free -/
def enough (n : Nat) (L : List Lk) (drop : List Bool) (k : Nat) : Bool :=
  match levels n L drop k with
  | none => false
  | some none => true
  | some (some _) => (List.range n).all fun v => match boundsTo n L drop k v with
    | some (some s) => s.length == n && s.all fun z => decide (-free ≤ z) && decide (z ≤ free)
    | _ => false
def cons (n : Nat) (L : List Lk) (drop : List Bool) (k : Nat) : Bool :=
  match levels n L drop k with
  | some (some _) => true
  | _ => false
/-- the bounds of all nodes and one -/
def bt (n : Nat) (L : List Lk) (drop : List Bool) (k v : Nat) : List Int := ((boundsTo n L drop k v).getD none).getD []

theorem enough_levels {n : Nat} {L : List Lk} {drop : List Bool} {k : Nat} (h : enough n L drop k = true) : ∃ R, levels n L drop k = some R ∧ R.isSome = cons n L drop k := by
  unfold enough at h
  unfold cons
  split at h
  · cases h
  · rename_i e; rw [e]; exact ⟨none, rfl, rfl⟩
  · rename_i e; rw [e]; exact ⟨some _, rfl, rfl⟩
theorem enough_bt {n : Nat} {L : List Lk} {drop : List Bool} {k : Nat} (h : enough n L drop k = true) (hc : cons n L drop k = true) {v : Nat} (hv : v < n) :
    boundsTo n L drop k v = some (some (bt n L drop k v)) ∧ (bt n L drop k v).length = n ∧ ∀ i, i < n → -1152921504606846976 ≤ (bt n L drop k v).getD i 0 ∧ (bt n L drop k v).getD i 0 ≤ 1152921504606846976 := by
  unfold enough at h
  unfold cons at hc
  split at hc
  · rename_i e
    rw [e] at h
    simp only at h
    rw [List.all_eq_true] at h
    have h2 := h v (List.mem_range.2 hv)
    split at h2
    · rename_i s e2
      have e3 : bt n L drop k v = s := by unfold bt; rw [e2]; rfl
      rw [e3]
      simp only [Bool.and_eq_true, beq_iff_eq, List.all_eq_true, decide_eq_true_eq] at h2
      refine ⟨e2, h2.1, fun i hi => ?_⟩
      have h4 := h2.2 (s.getD i 0) (by rw [List.getD, List.getElem?_eq_getElem (by omega)]; exact List.getElem_mem _)
      unfold free at h4
      exact h4
    · cases h2
  · cases hc

/-- the error with which open answers -/
def openE (n : Int) (L : List Lk) (l : List Int) (c : Bool) : Int :=
  if (check n L).1 ≠ 0 then (check n L).1 else if l.all (fun i => isIx i n) then if c then 0 else 9 else 1
def opn (n : Int) (L : List Lk) (l : List Int) (k : Nat) : Int := openE n L l (cons n.toNat L [] k)
theorem opn_ok {n : Int} {L : List Lk} {l : List Int} {k : Nat} (h : opn n L l k = 0) : (check n L).1 = 0 ∧ l.all (fun i => isIx i n) = true ∧ cons n.toNat L [] k = true := by
  unfold opn openE at h
  split at h
  · rename_i h1; exact absurd h h1
  · rename_i h1
    split at h
    · rename_i h2
      split at h
      · rename_i h3; exact ⟨by omega, h2, h3⟩
      · cases h
    · cases h
/-- Bound -/
def bound (n : Int) (L : List Lk) (k : Nat) (u v : Int) : Int × Int :=
  if opn n L [u, v] k ≠ 0 then (0, opn n L [u, v] k) else
  if (bt n.toNat L [] k v.toNat).getD u.toNat 0 = free then (0, 5) else ((bt n.toNat L [] k v.toNat).getD u.toNat 0, 0)
/-- leastValues -/
def least (n : Int) (L : List Lk) (k : Nat) : List Int := (bt n.toNat L [] k 0).map fun z => -z
/-- greatestValues -/
def greatest (n : Int) (L : List Lk) (k : Nat) : List Int := (least n (turned L) k).map fun z => -z
theorem getD_neg {s : List Int} {i : Nat} : (s.map fun z => -z).getD i 0 = -(s.getD i 0) := by
  rw [List.getD, List.getD, List.getElem?_map]
  cases s[i]? <;> simp
theorem least_range {n : Int} {L : List Lk} {k : Nat} (hE : (check n L).1 = 0 → enough n.toNat L [] k = true) (h : opn n L [] k = 0) : ∀ i, i < n.toNat → -1152921504606846976 ≤ (least n L k).getD i 0 ∧ (least n L k).getD i 0 ≤ 1152921504606846976 := by
  intro i hi
  obtain ⟨h1, h2, h3⟩ := opn_ok h
  have := (enough_bt (hE h1) h3 (v := 0) (by omega)).2.2 i hi
  unfold least
  rw [getD_neg]
  omega
/-- the error of greatestValues -/
def greatE (n : Int) (L : List Lk) (k : Nat) : Int := if (check n L).1 ≠ 0 then (check n L).1 else opn n (turned L) [] k
theorem turned_len (L : List Lk) : (turned L).length = L.length := by simp [turned]
theorem bound_range {n : Int} {L : List Lk} {k : Nat} (hE : (check n L).1 = 0 → enough n.toNat L [] k = true) (u v : Int) : -1152921504606846976 ≤ (bound n L k u v).1 ∧ (bound n L k u v).1 ≤ 1152921504606846976 := by
  unfold bound
  split
  · simp
  · rename_i h
    split
    · simp
    · obtain ⟨h1, h2, h3⟩ := opn_ok (n := n) (L := L) (l := [u, v]) (k := k) (by omega)
      obtain ⟨n1, n2, _⟩ := check_ok h1
      simp [isIx] at h2
      exact (enough_bt (hE h1) h3 (v := v.toNat) (by omega)).2.2 u.toNat (by omega)
/-- Slack -/
def slack (n : Int) (L : List Lk) (k : Nat) (i : Int) : Int × Int :=
  if (check n L).1 ≠ 0 then (0, (check n L).1) else if isIx i L.length = false then (0, 1) else
  if (bound n L k (L.getD i.toNat noLk).t (L.getD i.toNat noLk).f).2 ≠ 0 then (0, (bound n L k (L.getD i.toNat noLk).t (L.getD i.toNat noLk).f).2) else
  ((bound n L k (L.getD i.toNat noLk).t (L.getD i.toNat noLk).f).1 + (L.getD i.toNat noLk).m, 0)
end Ch

/- Package chain, mirrored: lengthen in steps, and its bounds. -/
namespace Ch

/-- the links pre in front of a sum -/
def lenL (z : Int) (pre : List Lk) (a : List Int) : List Int := pre.foldl (fun a l => a.set l.f.toNat (min (a.getD l.f.toNat 0) (z + l.m))) a
/-- the first k nodes -/
def lenK (n : Nat) (L : List Lk) (drop : List Bool) (s : List Int) (k : Nat) : List Int := (List.range k).foldl (fun acc v => if s.getD v 0 = free then acc else lenL (s.getD v 0) (linksInto L drop v) acc) (unbound n)
theorem lenK_all (n : Nat) (L : List Lk) (drop : List Bool) (s : List Int) : lenK n L drop s n = lengthen n L drop s := rfl
theorem lenK_zero (n : Nat) (L : List Lk) (drop : List Bool) (s : List Int) : lenK n L drop s 0 = unbound n := rfl
theorem lenK_free {n : Nat} {L : List Lk} {drop : List Bool} {s : List Int} {k : Nat} (h : s.getD k 0 = 1152921504606846976) : lenK n L drop s (k + 1) = lenK n L drop s k := by
  unfold lenK
  rw [List.range_succ, List.foldl_append]
  simp only [List.foldl_cons, List.foldl_nil]
  rw [if_pos (show s.getD k 0 = free from h)]
theorem lenK_next {n : Nat} {L : List Lk} {drop : List Bool} {s : List Int} {k : Nat} (h : s.getD k 0 ≠ 1152921504606846976) : lenK n L drop s (k + 1) = lenL (s.getD k 0) (linksInto L drop k) (lenK n L drop s k) := by
  unfold lenK
  rw [List.range_succ, List.foldl_append]
  simp only [List.foldl_cons, List.foldl_nil]
  rw [if_neg (show ¬ s.getD k 0 = free from h)]
theorem lenL_snoc {z : Int} {pre : List Lk} {a : List Int} {l : Lk} : lenL z (pre ++ [l]) a = (lenL z pre a).set l.f.toNat (min ((lenL z pre a).getD l.f.toNat 0) (z + l.m)) := by
  unfold lenL
  rw [List.foldl_append]
  rfl

/-- a list of n sums, none below lo, none beyond free -/
def Sums (n : Nat) (lo : Int) (a : List Int) : Prop := a.length = n ∧ ∀ i, i < n → lo ≤ a.getD i 0 ∧ a.getD i 0 ≤ 1152921504606846976
theorem getD_set {a : List Int} {j i : Nat} {z : Int} (hi : i < a.length) : (a.set j z).getD i 0 = if i = j then z else a.getD i 0 := by
  rw [List.getD, List.getD, List.getElem?_set]
  by_cases e : j = i
  · rw [if_pos e, if_pos (by omega), if_pos e.symm]; rfl
  · rw [if_neg e, if_neg (fun h => e h.symm)]
theorem Sums.step {n : Nat} {lo : Int} {a : List Int} (h : Sums n lo a) {j : Nat} {z : Int} (hz : lo ≤ z) : Sums n lo (a.set j (min (a.getD j 0) z)) := by
  refine ⟨by rw [List.length_set]; exact h.1, fun i hi => ?_⟩
  rw [getD_set (by rw [h.1]; exact hi)]
  split
  · rename_i e
    subst e
    have := h.2 i hi
    omega
  · exact h.2 i hi
theorem Sums.free (n : Nat) {lo : Int} (h : lo ≤ 1152921504606846976) : Sums n lo (unbound n) := by
  refine ⟨by simp [unbound], fun i hi => ?_⟩
  unfold unbound
  rw [List.getD, List.getElem?_replicate, if_pos hi]
  show lo ≤ 1152921504606846976 ∧ (1152921504606846976 : Int) ≤ 1152921504606846976
  omega
theorem Sums.lenL {n : Nat} {lo z : Int} (hz : lo ≤ z - 4503599627370496) : ∀ {pre : List Lk} {a : List Int}, (∀ l ∈ pre, -4503599627370496 ≤ l.m) → Sums n lo a → Sums n lo (lenL z pre a)
  | [], _, _, h => h
  | l :: r, a, hm, h => by
    have h1 := hm l List.mem_cons_self
    exact Sums.lenL hz (pre := r) (fun l hl => hm l (List.mem_cons_of_mem _ hl)) (h.step (j := l.f.toNat) (z := z + l.m) (by omega))
theorem mem_into {L : List Lk} {drop : List Bool} {v : Nat} {l : Lk} (h : l ∈ linksInto L drop v) : ∃ i, i < L.length ∧ l = L.getD i noLk := by
  unfold linksInto at h
  obtain ⟨i, hi, rfl⟩ := List.mem_map.1 h
  have h2 := (List.mem_filter.1 hi).1
  unfold into at h2
  exact ⟨i, List.mem_range.1 (List.mem_filter.1 h2).1, rfl⟩
theorem Sums.lenK {n : Nat} {L : List Lk} {drop : List Bool} {s : List Int} {lo : Int} (hok : ∀ j, j < L.length → okLk n (L.getD j noLk) = true) (h0 : lo ≤ 0) (hs : Sums n lo s) : ∀ k, k ≤ n → Sums n (lo - 4503599627370496) (lenK n L drop s k)
  | 0, _ => Sums.free n (by omega)
  | k + 1, hk => by
    have ih := Sums.lenK hok h0 hs (drop := drop) k (by omega)
    by_cases e : s.getD k 0 = 1152921504606846976
    · rw [lenK_free e]; exact ih
    · rw [lenK_next e]
      refine ih.lenL (by have := (hs.2 k (by omega)).1; omega) (fun l hl => ?_)
      obtain ⟨i, hi, rfl⟩ := mem_into hl
      exact (okLk_spec (hok i hi)).2.2.2.2.2.1
theorem Sums.lengthen {n : Nat} {L : List Lk} {drop : List Bool} {s : List Int} {lo : Int} (hok : ∀ j, j < L.length → okLk n (L.getD j noLk) = true) (h0 : lo ≤ 0) (hs : Sums n lo s) : Sums n (lo - 4503599627370496) (lengthen n L drop s) := by
  rw [← lenK_all]; exact Sums.lenK hok h0 hs n (Nat.le_refl _)
theorem Sums.first {n v : Nat} : Sums n 0 ((unbound n).set v 0) := by
  refine ⟨by simp [unbound], fun i hi => ?_⟩
  rw [getD_set (by simpa [unbound] using hi)]
  split
  · omega
  · exact (Sums.free n (lo := 0) (by omega)).2 i hi
theorem Sums.sumsTo {n : Nat} {L : List Lk} {drop : List Bool} {v : Nat} (hok : ∀ j, j < L.length → okLk n (L.getD j noLk) = true) : ∀ k : Nat, Sums n (-(4503599627370496 * (k : Int))) (sumsTo n L drop v k)
  | 0 => by
    rw [show -(4503599627370496 * ((0 : Nat) : Int)) = 0 by omega]
    exact Sums.first
  | k + 1 => by
    have h := (Sums.sumsTo hok k (drop := drop) (v := v)).lengthen (drop := drop) hok (by omega)
    have e : -(4503599627370496 * ((k + 1 : Nat) : Int)) = -(4503599627370496 * (k : Int)) - 4503599627370496 := by omega
    rw [e]; exact h
end Ch

/- Package chain, mirrored: the first chain. -/
namespace Ch

/-- the first index, counted from k on, of a link at which p holds -/
def idx (p : Lk → Bool) : List Lk → Nat → Option Nat
  | [], _ => none
  | l :: r, k => if p l then some k else idx p r (k + 1)
theorem idx_step {p : Lk → Bool} {L : List Lk} {k : Nat} (h : k < L.length) : idx p (L.drop k) k = if p (L.getD k noLk) then some k else idx p (L.drop (k + 1)) (k + 1) := by
  rw [drop_at h, idx]
theorem idx_some {p : Lk → Bool} {i : Nat} : ∀ {L : List Lk} {k : Nat}, idx p L k = some i → k ≤ i ∧ i < k + L.length ∧ p (L.getD (i - k) noLk) = true
  | [], _, h => by cases h
  | l :: r, k, h => by
    rw [idx] at h
    split at h
    · rename_i h1
      obtain rfl := Option.some.inj h
      refine ⟨Nat.le_refl _, by simp, ?_⟩
      rw [Nat.sub_self]; exact h1
    · obtain ⟨h1, h2, h3⟩ := idx_some h
      refine ⟨by omega, by simp; omega, ?_⟩
      rw [show i - k = (i - (k + 1)) + 1 by omega]
      exact h3
/-- can a link begin a chain from u with a sum of at most 'most', if the rest has the least sums s? -/
def canLk (s : List Int) (u most : Int) (l : Lk) : Bool := l.f == u && decide (s.getD l.t.toNat 0 ≤ most - l.m)
/-- firstChain -/
def fst (L : List Lk) (S : Nat → List Int) : Nat → Int → Int → Option (List Nat)
  | 0, _, _ => some []
  | k + 1, u, most => match idx (canLk (S k) u most) L 0 with
    | none => none
    | some i => (fst L S k (L.getD i noLk).t (most - (L.getD i noLk).m)).map (i :: ·)
/-- the first number of links, from j on, with which the sum b is reached -/
def lnk (S : Nat → List Int) (u : Nat) (b : Int) : Nat → Nat → Option Nat
  | 0, _ => none
  | t + 1, j => if (S j).getD u 0 = b then some j else lnk S u b t (j + 1)
theorem lnk_le {S : Nat → List Int} {u : Nat} {b : Int} {q : Nat} : ∀ {t j : Nat}, lnk S u b t j = some q → j ≤ q ∧ q < j + t
  | 0, _, h => by cases h
  | t + 1, j, h => by
    rw [lnk] at h
    split at h
    · obtain rfl := Option.some.inj h; omega
    · have := lnk_le h; omega
/-- Chain -/
def chain (n : Int) (L : List Lk) (k : Nat) (u v : Int) : Option (List Nat × Int) :=
  if opn n L [u, v] k ≠ 0 then some ([], opn n L [u, v] k) else
  if (bt n.toNat L [] k v.toNat).getD u.toNat 0 = free then some ([], 5) else
  match lnk (sumsTo n.toNat L [] v.toNat) u.toNat ((bt n.toNat L [] k v.toNat).getD u.toNat 0) 61 0 with
  | none => none
  | some j => (fst L (sumsTo n.toNat L [] v.toNat) j u ((bt n.toNat L [] k v.toNat).getD u.toNat 0)).map fun l => (l, 0)
/-- is one of the links, counted from k on, as lq, and another one than q, and not left out? -/
def twin (D : List Bool) (q : Nat) (lq : Lk) : List Lk → Nat → Bool
  | [], _ => false
  | l :: r, k => (k != q && !D.getD k false && sameLk l lq) || twin D q lq r (k + 1)
theorem twin_step {D : List Bool} {q : Nat} {lq : Lk} {L : List Lk} {k : Nat} (h : k < L.length) : twin D q lq (L.drop k) k = ((k != q && !D.getD k false && sameLk (L.getD k noLk) lq) || twin D q lq (L.drop (k + 1)) (k + 1)) := by
  rw [drop_at h, twin]
/-- spares -/
def spares (n : Nat) (L : List Lk) (D : List Bool) (k : Nat) (q : Nat) : Bool :=
  twin D q (L.getD q noLk) L 0 || decide ((bt n L (D.set q true) k (L.getD q noLk).t.toNat).getD (L.getD q noLk).f.toNat 0 ≤ (L.getD q noLk).m)
/-- no link is left out -/
def none' (m : Nat) : List Bool := List.replicate m false
theorem none_get (m i : Nat) : (none' m).getD i false = false := by
  unfold none'
  rw [List.getD, List.getElem?_replicate]
  split <;> rfl
theorem none_len (m : Nat) : (none' m).length = m := by simp [none']
/-- Idle: the first j links -/
def idleK (n : Nat) (L : List Lk) (k j : Nat) : List Nat := (List.range j).filter fun q => spares n L (none' L.length) k q
theorem idleK_hit {n : Nat} {L : List Lk} {k j : Nat} (h : spares n L (none' L.length) k j = true) : idleK n L k (j + 1) = idleK n L k j ++ [j] := by
  unfold idleK
  rw [List.range_succ, List.filter_append, List.filter_cons, h]
  simp
theorem idleK_miss {n : Nat} {L : List Lk} {k j : Nat} (h : spares n L (none' L.length) k j = false) : idleK n L k (j + 1) = idleK n L k j := by
  unfold idleK
  rw [List.range_succ, List.filter_append, List.filter_cons, h]
  simp
theorem idleK_len (n : Nat) (L : List Lk) (k j : Nat) : (idleK n L k j).length ≤ j := by
  unfold idleK
  have := List.length_filter_le (fun q => spares n L (none' L.length) k q) (List.range j)
  simpa using this
/-- slices.Compare -/
def cmpI : List Int → List Int → Int
  | [], [] => 0
  | [], _ :: _ => -1
  | _ :: _, [] => 1
  | a :: r, b :: q => if a < b then -1 else if b < a then 1 else cmpI r q
theorem cmpI_step {l q : List Int} {k : Nat} (h : k < l.length) (h2 : k < q.length) : cmpI (l.drop k) (q.drop k) = if l.getD k 0 < q.getD k 0 then -1 else if q.getD k 0 < l.getD k 0 then 1 else cmpI (l.drop (k + 1)) (q.drop (k + 1)) := by
  have e1 : l[k] = l.getD k 0 := by rw [List.getD, List.getElem?_eq_getElem h]; rfl
  have e2 : q[k] = q.getD k 0 := by rw [List.getD, List.getElem?_eq_getElem h2]; rfl
  rw [List.drop_eq_getElem_cons h, List.drop_eq_getElem_cons h2, cmpI, e1, e2]
theorem cmpI_more {l q : List Int} {k : Nat} (h : k < l.length) (h2 : q.length ≤ k) : cmpI (l.drop k) (q.drop k) = 1 := by
  rw [List.drop_eq_getElem_cons h, List.drop_eq_nil_of_le h2, cmpI]
theorem cmpI_less {l q : List Int} {k : Nat} (h : l.length ≤ k) (h2 : k < q.length) : cmpI (l.drop k) (q.drop k) = -1 := by
  rw [List.drop_eq_getElem_cons h2, List.drop_eq_nil_of_le h, cmpI]
theorem cmpI_same {l q : List Int} {k : Nat} (h : l.length ≤ k) (h2 : q.length ≤ k) : cmpI (l.drop k) (q.drop k) = 0 := by
  rw [List.drop_eq_nil_of_le h2, List.drop_eq_nil_of_le h, cmpI]
end Ch

/- Package chain, mirrored: Reduce. -/
namespace Ch
/-- what Reduce has left out behind c links, the last one first -/
def rd (n : Nat) (L : List Lk) (k : Nat) : Nat → List Bool
  | 0 => none' L.length
  | c + 1 => if spares n L (rd n L k c) k (L.length - 1 - c) then (rd n L k c).set (L.length - 1 - c) true else rd n L k c
theorem rd_len (n : Nat) (L : List Lk) (k : Nat) : ∀ c, (rd n L k c).length = L.length
  | 0 => none_len _
  | c + 1 => by rw [rd]; split <;> simp [rd_len n L k c]
theorem rd_off (n : Nat) (L : List Lk) (k : Nat) : ∀ c i, i + c < L.length → (rd n L k c).getD i false = false
  | 0, i, _ => none_get _ _
  | c + 1, i, h => by
    have ih := rd_off n L k c i (by omega)
    rw [rd]
    split
    · rw [List.getD, List.getElem?_set, if_neg (by omega)]
      exact ih
    · exact ih
theorem rd_hit {n : Nat} {L : List Lk} {k c : Nat} (h : spares n L (rd n L k c) k (L.length - 1 - c) = true) : rd n L k (c + 1) = (rd n L k c).set (L.length - 1 - c) true := by rw [rd, if_pos h]
theorem rd_miss {n : Nat} {L : List Lk} {k c : Nat} (h : spares n L (rd n L k c) k (L.length - 1 - c) = false) : rd n L k (c + 1) = rd n L k c := by rw [rd, h]; rfl
/-- the first j links that are not left out -/
def leftK (D : List Bool) (j : Nat) : List Nat := (List.range j).filter fun q => !D.getD q false
theorem leftK_hit {D : List Bool} {j : Nat} (h : D.getD j false = false) : leftK D (j + 1) = leftK D j ++ [j] := by
  unfold leftK
  rw [List.range_succ, List.filter_append, List.filter_cons, h]
  simp
theorem leftK_miss {D : List Bool} {j : Nat} (h : D.getD j false = true) : leftK D (j + 1) = leftK D j := by
  unfold leftK
  rw [List.range_succ, List.filter_append, List.filter_cons, h]
  simp
theorem leftK_len (D : List Bool) (j : Nat) : (leftK D j).length ≤ j := by
  unfold leftK
  have := List.length_filter_le (fun q => !D.getD q false) (List.range j)
  simpa using this
/-- Reduce -/
def reduce (n : Int) (L : List Lk) (k : Nat) : List Nat × Int :=
  if opn n L [] k ≠ 0 then ([], opn n L [] k) else (leftK (rd n.toNat L k L.length) L.length, 0)
end Ch

/- All blocks but some are as they were. -/
namespace Go.Proofs.YtemacokojdeimaaGreatDoor
open Go.RowKit

/-- the blocks of w but those of T are as they were -/
structure But (T : Nat → Prop) (w w' : World) : Prop where
  os : w'.os = w.os
  tape : w'.tape = w.tape
  output : w'.output = w.output
  size : w.heap.size ≤ w'.heap.size
  block : ∀ k, k < w.heap.size → ¬ T k → w'.heap[k]? = w.heap[k]?

theorem But.refl (T : Nat → Prop) (w : World) : But T w w := ⟨rfl, rfl, rfl, Nat.le_refl _, fun _ _ _ => rfl⟩
theorem But.trans {T : Nat → Prop} {a b c : World} (h : But T a b) (k : But T b c) : But T a c :=
  ⟨k.os.trans h.os, k.tape.trans h.tape, k.output.trans h.output, Nat.le_trans h.size k.size, fun i hi ht => (k.block i (Nat.lt_of_lt_of_le hi h.size) ht).trans (h.block i hi ht)⟩
theorem But.mono {T S : Nat → Prop} {w w' : World} (h : But T w w') (hs : ∀ k, k < w.heap.size → T k → S k) : But S w w' := ⟨h.os, h.tape, h.output, h.size, fun k hk hn => h.block k hk (fun ht => hn (hs k hk ht))⟩
theorem But.of_below {T : Nat → Prop} {w w' : World} (h : Below w.heap.size w w') : But T w w' := ⟨h.os, h.tape, h.output, h.size, fun k hk _ => h.block k hk⟩
theorem But.below {T : Nat → Prop} {B : Nat} {w w' : World} (h : But T w w') (hB : B ≤ w.heap.size) (ht : ∀ k, k < B → ¬ T k) : Below B w w' := ⟨h.os, h.tape, h.output, h.size, fun k hk => h.block k (by omega) (ht k hk)⟩
theorem But.alloc {T : Nat → Prop} {a w : World} (h : But T a w) (o : Obj) : But T a (w.alloc o) := h.trans (.of_below ((Below.refl _ _).alloc (Nat.le_refl _) o))
theorem But.drew {T : Nat → Prop} {a w : World} (h : But T a w) : But T a w.drew := ⟨h.os, h.tape, h.output, h.size, h.block⟩
theorem But.setCell {T : Nat → Prop} {a w : World} (h : But T a w) {p : Addr} (hp : a.heap.size ≤ p.block ∨ T p.block) (u : Value) : But T a (w.setCell p u) := by
  refine ⟨h.os, h.tape, h.output, by simpa using h.size, fun k hk ht => ?_⟩
  have hne : k ≠ p.block := by
    intro e
    rcases hp with hp | hp
    · omega
    · exact ht (e ▸ hp)
  rw [Below.heap_setCell _ _ _ _ hne]
  exact h.block k hk ht
theorem But.grown {T : Nat → Prop} {a w w' : World} {row : Option Nat} (h : But T a w) (hg : w.grownBy w' row) (hr : ∀ k, row = some k → a.heap.size ≤ k ∨ T k) : But T a w' := by
  refine ⟨hg.os.trans h.os, hg.tape.trans h.tape, hg.output.trans h.output, Nat.le_trans h.size hg.size, fun k hk ht => ?_⟩
  rw [hg.block k (Nat.lt_of_lt_of_le hk h.size) ?_]
  · exact h.block k hk ht
  · intro e
    rcases hr k e.symm with h1 | h1
    · omega
    · exact ht h1
theorem But.cell {T : Nat → Prop} {w w' : World} (h : But T w w') {p : Addr} (hp : p.block < w.heap.size) (ht : ¬ T p.block) : w'.cell? p = w.cell? p := World.cell?_of_block (h.block p.block hp ht)
theorem But.frozen {T : Nat → Prop} {w w' : World} (h : But T w w') {p : Addr} (hp : p.block < w.heap.size) (ht : ¬ T p.block) : w'.frozen? p = w.frozen? p := World.frozen?_of_block (h.block p.block hp ht)
theorem But.kept {T : Nat → Prop} {w w' : World} {p : Addr} {x : Value} (h : But T w w') (hc : w.cell? p = some x) (ht : ¬ T p.block) : w'.cell? p = some x := (h.cell (block_lt_of_cell hc) ht).trans hc
theorem But.row {T : Nat → Prop} {w w' : World} {b : Nat} {t : TypeId} {n : Nat} {f : Nat → Value} (h : But T w w') (hr : w.rowIs b t n f) (ht : ¬ T b) : w'.rowIs b t n f := hr.of_block (h.block b hr.lt ht)
theorem Below.row {w w' : World} {b : Nat} {t : TypeId} {n : Nat} {f : Nat → Value} (h : Below w.heap.size w w') (hr : w.rowIs b t n f) : w'.rowIs b t n f := hr.of_block (h.block b hr.lt)
/-- what a slice that is owned looks like, as a row -/
theorem owns_row {w : World} {base : Nat} {e : TypeId} {v : Value} {n : Nat} {xs : List Value} (h : w.ownsRow base e 1 v n xs) (hn : 0 < n) :
    ∃ g cap f, v = .slice (some ⟨g, 0, none⟩) n cap ∧ base ≤ g ∧ n ≤ cap ∧ cap ≤ maxLen ∧ w.rowIs g e cap f ∧ ∀ k, k < n → xs[k]? = some (f k) := by
  obtain ⟨hl, h2⟩ := h
  rcases h2 with ⟨_, h0⟩ | ⟨g, cap, cur, hv, hb, hg, hle, hcm, hs, ht⟩
  · omega
  · refine ⟨g, cap, fun i => (cur[i]?).getD undef, hv, hb, hle, hcm, ⟨cur, hg, by omega, fun i hi => ?_⟩, fun k hk => ?_⟩
    · show cur[i]? = some ((cur[i]?).getD undef)
      rw [Array.getElem?_eq_getElem (by omega)]; rfl
    · show xs[k]? = some ((cur[k]?).getD undef)
      rw [← ht, List.getElem?_take_of_lt (by omega), Array.getElem?_toList, Array.getElem?_eq_getElem (by omega)]; rfl
end Go.Proofs.YtemacokojdeimaaGreatDoor
