/- What the walk of Best of package exact carries. -/
import Derived.Test.YtffabmojbelaaaaDoorO
import Derived.Test.YtffabmojbelaaaaDoorV
import Derived.Test.YtffabmojbelaaaaDoorRk
namespace Go.Proofs.YtffabmojbelaaaaDoor
open Go.RowKit Go.Shelf
attribute [local go_sem] Oper.semAt_some

/-- the cells that the loop reads and writes: p the box of the last two convergents, q the first of the function's own boxes -/
structure BestCells (N D m : Int) (p q : Nat) (h0 k0 h1 k1 : Int) (W : World) : Prop where
  c0 : W.cell? ⟨p, 0, none⟩ = some (.int .i64 h0)
  c1 : W.cell? ⟨p, 1, none⟩ = some (.int .i64 k0)
  c2 : W.cell? ⟨p, 2, none⟩ = some (.int .i64 h1)
  c3 : W.cell? ⟨p, 3, none⟩ = some (.int .i64 k1)
  cf : ∀ o, W.frozen? ⟨p, o, none⟩ = false
  a0 : W.cell? ⟨q, 0, none⟩ = some (.int .i64 N)
  a1 : W.cell? ⟨q, 1, none⟩ = some (.int .i64 D)
  m0 : W.cell? ⟨q + 1, 0, none⟩ = some (.int .i64 m)
  r0 : W.cell? ⟨q + 1 + 1, 0, none⟩ = some (.int .i64 0)
  r1 : W.cell? ⟨q + 1 + 1, 1, none⟩ = some (.int .i64 0)
  rf : ∀ o, W.frozen? ⟨q + 1 + 1, o, none⟩ = false
  e0 : W.cell? ⟨q + 1 + 1 + 1, 0, none⟩ = some (.int .i64 0)
  ef : ∀ o, W.frozen? ⟨q + 1 + 1 + 1, o, none⟩ = false

/-- between two rounds -/
def BestI (N D m : Int) (p q : Nat) (w : World) (pre : List Int) (W : World) : Prop :=
  (∃ h0 k0 h1 k1 num den : Int, Rt.St N D pre h0 k0 h1 k1 num den ∧ k0 ≤ m ∧ k1 ≤ m ∧ BestCells N D m p q h0 k0 h1 k1 W) ∧ Below w.heap.size w W
/-- .. and where a round has left -/
def BestX (N D m : Int) (q : Nat) (w : World) (_pre : List Int) (W : World) : Prop :=
  (∃ x y : Int, Rt.BestOf N D m x y ∧ Rt.vldP x y ∧ W.cell? ⟨q + 1 + 1, 0, none⟩ = some (.int .i64 x) ∧ W.cell? ⟨q + 1 + 1, 1, none⟩ = some (.int .i64 y) ∧ W.cell? ⟨q + 1 + 1 + 1, 0, none⟩ = some (.int .i64 0)) ∧ Below w.heap.size w W

theorem BestCells.kept {N D m : Int} {p q : Nat} {h0 k0 h1 k1 : Int} {A B : World} {row : Option Nat} (h : BestCells N D m p q h0 k0 h1 k1 A) (hg : A.grownBy B row) (hr : ∀ r, row = some r → ∃ o : Obj, A.heap[r]? = some o ∧ o.isCells = false) :
    BestCells N D m p q h0 k0 h1 k1 B := by
  have fz : ∀ {b : Nat} {v : Value}, A.cell? ⟨b, 0, none⟩ = some v → (∀ o, A.frozen? ⟨b, o, none⟩ = false) → ∀ o, B.frozen? ⟨b, o, none⟩ = false := by
    intro b v hc hf o
    obtain ⟨ob, ho, hcs⟩ := cells_of_cell hc
    rw [World.frozen?_of_block (w := A) (w' := B) (a := ⟨b, o, none⟩) (grownBy_keeps_cells hg hr ho hcs)]
    exact hf o
  exact ⟨cell_kept h.c0 hg hr, cell_kept h.c1 hg hr, cell_kept h.c2 hg hr, cell_kept h.c3 hg hr, fz h.c0 h.cf, cell_kept h.a0 hg hr, cell_kept h.a1 hg hr, cell_kept h.m0 hg hr, cell_kept h.r0 hg hr, cell_kept h.r1 hg hr, fz h.r0 h.rf, cell_kept h.e0 hg hr, fz h.e0 h.ef⟩

theorem cell_lt {W : World} {b o : Nat} {v : Value} (h : W.cell? ⟨b, o, none⟩ = some v) : b < W.heap.size := by
  obtain ⟨ob, ho, _⟩ := cells_of_cell h
  exact (Array.getElem?_eq_some_iff.1 ho).1
theorem cell_keep {A B : World} {p : Addr} {v : Value} (hb : Below A.heap.size A B) (h : A.cell? p = some v) : B.cell? p = some v := (hb.cell (block_lt_of_cell h)).trans h
theorem mark_keep {A B : World} {b : Nat} {v : Value} (hb : Below A.heap.size A B) (h : A.cell? ⟨b, 0, none⟩ = some v) (hf : ∀ o, A.frozen? ⟨b, o, none⟩ = false) : ∀ o, B.frozen? ⟨b, o, none⟩ = false := by
  intro o
  rw [hb.frozen (p := ⟨b, o, none⟩) (cell_lt h)]
  exact hf o
theorem BestCells.below {N D m : Int} {p q : Nat} {h0 k0 h1 k1 : Int} {A B : World} (h : BestCells N D m p q h0 k0 h1 k1 A) (hb : Below A.heap.size A B) : BestCells N D m p q h0 k0 h1 k1 B :=
  ⟨cell_keep hb h.c0, cell_keep hb h.c1, cell_keep hb h.c2, cell_keep hb h.c3, mark_keep hb h.c0 h.cf, cell_keep hb h.a0, cell_keep hb h.a1, cell_keep hb h.m0, cell_keep hb h.r0, cell_keep hb h.r1, mark_keep hb h.r0 h.rf, cell_keep hb h.e0, mark_keep hb h.e0 h.ef⟩
theorem keeps_below {A B : World} (hb : Below A.heap.size A B) : KeepsOthers A B := ⟨hb.size, fun k _ h _ => (hb.block k (Array.getElem?_eq_some_iff.1 h).1).trans h⟩

theorem best_facts {N D m : Int} {p q : Nat} {h0 k0 h1 k1 : Int} {W : World} (h : BestCells N D m p q h0 k0 h1 k1 W) :
    W.cell? ⟨p, 0, none⟩ = some (.int .i64 h0) ∧ W.cell? ⟨p, 1, none⟩ = some (.int .i64 k0) ∧ W.cell? ⟨p, 2, none⟩ = some (.int .i64 h1) ∧ W.cell? ⟨p, 3, none⟩ = some (.int .i64 k1) ∧ W.cell? ⟨q, 0, none⟩ = some (.int .i64 N) ∧ W.cell? ⟨q, 1, none⟩ = some (.int .i64 D) ∧
      W.cell? ⟨q + 1 + 1, 0, none⟩ = some (.int .i64 0) ∧ W.cell? ⟨q + 1 + 1, 1, none⟩ = some (.int .i64 0) ∧ W.cell? ⟨q + 1 + 1 + 1, 0, none⟩ = some (.int .i64 0) ∧ (∀ o, W.frozen? ⟨q + 1 + 1, o, none⟩ = false) ∧ (∀ o, W.frozen? ⟨q + 1 + 1 + 1, o, none⟩ = false) :=
  ⟨h.c0, h.c1, h.c2, h.c3, h.a0, h.a1, h.r0, h.r1, h.e0, h.rf, h.ef⟩

theorem BestCells.turn {N D m : Int} {p q : Nat} {h0 k0 h1 k1 : Int} {A : World} (h : BestCells N D m p q h0 k0 h1 k1 A) (hq : q + 1 + 1 + 1 < p) (a b c d : Int) :
    BestCells N D m p q a b c d ((((A.setCell ⟨p, 0, none⟩ (.int .i64 a)).setCell ⟨p, 1, none⟩ (.int .i64 b)).setCell ⟨p, 2, none⟩ (.int .i64 c)).setCell ⟨p, 3, none⟩ (.int .i64 d)) := by
  have n0 : ¬ p = q := by omega
  have n1 : ¬ p = q + 1 := by omega
  have n2 : ¬ p = q + 1 + 1 := by omega
  have n3 : ¬ p = q + 1 + 1 + 1 := by omega
  have m0 : ¬ q = p := by omega
  have m1 : ¬ q + 1 = p := by omega
  have m2 : ¬ q + 1 + 1 = p := by omega
  have m3 : ¬ q + 1 + 1 + 1 = p := by omega
  obtain ⟨x0, x1, x2, x3, x4, x5, x6, x7, x8, x9, x10, x11, x12⟩ := h
  constructor
  all_goals first | (simp [go_sem, *]; done) | (intro _; simp [go_sem, *]; done)

theorem best_end {w W w5 : World} {N D m : Int} {p0 : Nat} {h0 k0 h1 k1 : Int} (h5 : BestCells N D m p0 w.heap.size h0 k0 h1 k1 w5) (b5 : Below w.heap.size w w5) (k5 : KeepsOthers W w5) (p q : Int) :
    (((w5.setCell ⟨w.heap.size + 1 + 1, 0, none⟩ (.int .i64 p)).setCell ⟨w.heap.size + 1 + 1, 1, none⟩ (.int .i64 q)).setCell ⟨w.heap.size + 1 + 1 + 1, 0, none⟩ (.int .i64 0)).cell? ⟨w.heap.size + 1 + 1, 0, none⟩ = some (.int .i64 p) ∧
    (((w5.setCell ⟨w.heap.size + 1 + 1, 0, none⟩ (.int .i64 p)).setCell ⟨w.heap.size + 1 + 1, 1, none⟩ (.int .i64 q)).setCell ⟨w.heap.size + 1 + 1 + 1, 0, none⟩ (.int .i64 0)).cell? ⟨w.heap.size + 1 + 1, 1, none⟩ = some (.int .i64 q) ∧
    (((w5.setCell ⟨w.heap.size + 1 + 1, 0, none⟩ (.int .i64 p)).setCell ⟨w.heap.size + 1 + 1, 1, none⟩ (.int .i64 q)).setCell ⟨w.heap.size + 1 + 1 + 1, 0, none⟩ (.int .i64 0)).cell? ⟨w.heap.size + 1 + 1 + 1, 0, none⟩ = some (.int .i64 0) ∧
    Below w.heap.size w (((w5.setCell ⟨w.heap.size + 1 + 1, 0, none⟩ (.int .i64 p)).setCell ⟨w.heap.size + 1 + 1, 1, none⟩ (.int .i64 q)).setCell ⟨w.heap.size + 1 + 1 + 1, 0, none⟩ (.int .i64 0)) ∧
    KeepsOthers W (((w5.setCell ⟨w.heap.size + 1 + 1, 0, none⟩ (.int .i64 p)).setCell ⟨w.heap.size + 1 + 1, 1, none⟩ (.int .i64 q)).setCell ⟨w.heap.size + 1 + 1 + 1, 0, none⟩ (.int .i64 0)) := by
  have r50 := h5.r0
  have r51 := h5.r1
  have e50 := h5.e0
  refine ⟨by simp [go_sem, r50], by simp [go_sem, r51], by simp [go_sem, e50], ?_, k5.trans (((KeepsOthers.setCell w5 _ _).trans (KeepsOthers.setCell _ _ _)).trans (KeepsOthers.setCell _ _ _))⟩
  exact ((b5.setCell (show w.heap.size ≤ w.heap.size + 1 + 1 by omega) _).setCell (show w.heap.size ≤ w.heap.size + 1 + 1 by omega) _).setCell (show w.heap.size ≤ w.heap.size + 1 + 1 + 1 by omega) _

theorem bestI_own (N D m : Int) (p q : Nat) (w : World) (B : Nat) (hB : w.heap.size ≤ B) : OwnFrom B (BestI N D m p q w) := by
  intro s X Y row hs hg hr
  obtain ⟨⟨h0, k0, h1, k1, num, den, a1, a2, a3, a4⟩, hb⟩ := hs
  exact ⟨⟨h0, k0, h1, k1, num, den, a1, a2, a3, a4.kept hg (fun r e => (hr r e).2)⟩, ownFrom_below (β := List Int) (Nat.le_refl _) hB s X Y row hb hg hr⟩
theorem bestX_own (N D m : Int) (q : Nat) (w : World) (B : Nat) (hB : w.heap.size ≤ B) : OwnFrom B (BestX N D m q w) := by
  intro s X Y row hs hg hr
  obtain ⟨⟨x, y, a1, a2, a3, a4, a5⟩, hb⟩ := hs
  have hr2 := fun r e => (hr r e).2
  exact ⟨⟨x, y, a1, a2, cell_kept a3 hg hr2, cell_kept a4 hg hr2, cell_kept a5 hg hr2⟩, ownFrom_below (β := List Int) (Nat.le_refl _) hB s X Y row hb hg hr⟩

end Go.Proofs.YtffabmojbelaaaaDoor
