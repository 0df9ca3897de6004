/- Cells and frames behind a call, where blocks were laid ahead of it. -/
import Derived.Test.YtffabmojbelaaaaDoorKp
namespace Go.Proofs.YtffabmojbelaaaaDoor
open Go.RowKit

theorem cell_alloc {W : World} {p : Addr} {x : Value} (h : W.cell? p = some x) (o : Obj) : (W.alloc o).cell? p = some x := kept1 h ((Below.refl _ _).alloc (Nat.le_refl _) o)
theorem below_alloc {w W : World} (h : Below w.heap.size w W) (o : Obj) : Below w.heap.size w (W.alloc o) := h.alloc h.size o
theorem bstep0 {w W W' : World} (h : Below w.heap.size w W) (hb : Below W.heap.size W W') : Below w.heap.size w W' := h.trans (hb.mono h.size)
theorem kept_a1 {W W' : World} {o0 : Obj} {p : Addr} {x : Value} (h : W.cell? p = some x) (hb : Below (W.alloc o0).heap.size (W.alloc o0) W') : W'.cell? p = some x := kept1 (cell_alloc h _) hb
theorem bstep1 {w W W' : World} {o0 : Obj} (h : Below w.heap.size w W) (hb : Below (W.alloc o0).heap.size (W.alloc o0) W') : Below w.heap.size w W' := bstep0 (below_alloc h _) hb
theorem kept_a2 {W W' : World} {o0 o1 : Obj} {p : Addr} {x : Value} (h : W.cell? p = some x) (hb : Below ((W.alloc o0).alloc o1).heap.size ((W.alloc o0).alloc o1) W') : W'.cell? p = some x := kept1 (cell_alloc (cell_alloc h _) _) hb
theorem bstep2 {w W W' : World} {o0 o1 : Obj} (h : Below w.heap.size w W) (hb : Below ((W.alloc o0).alloc o1).heap.size ((W.alloc o0).alloc o1) W') : Below w.heap.size w W' := bstep0 (below_alloc (below_alloc h _) _) hb
theorem kept_a3 {W W' : World} {o0 o1 o2 : Obj} {p : Addr} {x : Value} (h : W.cell? p = some x) (hb : Below (((W.alloc o0).alloc o1).alloc o2).heap.size (((W.alloc o0).alloc o1).alloc o2) W') : W'.cell? p = some x := kept1 (cell_alloc (cell_alloc (cell_alloc h _) _) _) hb
theorem bstep3 {w W W' : World} {o0 o1 o2 : Obj} (h : Below w.heap.size w W) (hb : Below (((W.alloc o0).alloc o1).alloc o2).heap.size (((W.alloc o0).alloc o1).alloc o2) W') : Below w.heap.size w W' := bstep0 (below_alloc (below_alloc (below_alloc h _) _) _) hb
theorem kept_a4 {W W' : World} {o0 o1 o2 o3 : Obj} {p : Addr} {x : Value} (h : W.cell? p = some x) (hb : Below ((((W.alloc o0).alloc o1).alloc o2).alloc o3).heap.size ((((W.alloc o0).alloc o1).alloc o2).alloc o3) W') : W'.cell? p = some x := kept1 (cell_alloc (cell_alloc (cell_alloc (cell_alloc h _) _) _) _) hb
theorem bstep4 {w W W' : World} {o0 o1 o2 o3 : Obj} (h : Below w.heap.size w W) (hb : Below ((((W.alloc o0).alloc o1).alloc o2).alloc o3).heap.size ((((W.alloc o0).alloc o1).alloc o2).alloc o3) W') : Below w.heap.size w W' := bstep0 (below_alloc (below_alloc (below_alloc (below_alloc h _) _) _) _) hb
theorem kept_a5 {W W' : World} {o0 o1 o2 o3 o4 : Obj} {p : Addr} {x : Value} (h : W.cell? p = some x) (hb : Below (((((W.alloc o0).alloc o1).alloc o2).alloc o3).alloc o4).heap.size (((((W.alloc o0).alloc o1).alloc o2).alloc o3).alloc o4) W') : W'.cell? p = some x := kept1 (cell_alloc (cell_alloc (cell_alloc (cell_alloc (cell_alloc h _) _) _) _) _) hb
theorem bstep5 {w W W' : World} {o0 o1 o2 o3 o4 : Obj} (h : Below w.heap.size w W) (hb : Below (((((W.alloc o0).alloc o1).alloc o2).alloc o3).alloc o4).heap.size (((((W.alloc o0).alloc o1).alloc o2).alloc o3).alloc o4) W') : Below w.heap.size w W' := bstep0 (below_alloc (below_alloc (below_alloc (below_alloc (below_alloc h _) _) _) _) _) hb
end Go.Proofs.YtffabmojbelaaaaDoor
