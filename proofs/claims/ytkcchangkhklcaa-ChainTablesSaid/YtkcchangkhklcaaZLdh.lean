/- The law ChainTables: what its walks share. -/
import Derived.Test.YtkcchangkhklcaaZUp
import Derived.Test.YtkcchangkhklcaaZYk
import Derived.Test.YtkcchangkhklcaaZYr
import Derived.Test.YtkcchangkhklcaaZSx
import Derived.Test.YtkcchangkhklcaaZ06
import Derived.Test.YtkcchangkhklcaaZGl
import Derived.Test.YtkcchangkhklcaaZTt
import Derived.Test.YtkcchangkhklcaaZYa
import Derived.BigRegion
import Derived.BigQuiet
set_option linter.unusedSimpArgs false
set_option linter.unusedVariables false
namespace Go.Proofs.Ytkcchangkhklcaa
open Go.RowKit

theorem sp_lo {lo up : List Int} {N i : Nat} (h : i < N) : spF lo up N (i * 2) = .int .i64 (lo.getD i 0) := by
  unfold spF
  rw [show i * 2 / 2 = i by omega, if_pos h, if_pos (by omega)]
theorem sp_hi {lo up : List Int} {N i : Nat} (h : i < N) : spF lo up N (i * 2 + 1) = .int .i64 (up.getD i 0) := by
  unfold spF
  rw [show (i * 2 + 1) / 2 = i by omega, if_pos h, if_neg (by omega)]
theorem LP.below9 {w W W' : World} {cv dv : Value} {us ds : List Int} (h : LP w W cv dv us ds) (hb : Below W.heap.size W W') : LP w W' cv dv us ds :=
  ⟨owns_but (T := fun _ => False) h.o1 ((But.of_below hb).mono (fun _ _ h => h)) (fun _ _ h => h), owns_but (T := fun _ => False) h.o2 ((But.of_below hb).mono (fun _ _ h => h)) (fun _ _ h => h), h.ne, h.b.trans (hb.mono h.b.size)⟩
theorem LP.push9 {w W W' : World} {cv dv cv' : Value} {us ds : List Int} {z : Int} (o : Obj) (h : LP w W cv dv us ds) (hown : W'.ownsRow w.heap.size 3 1 cv' (us.length + 1) (us.map iV ++ [.int .i64 z])) (hg : (W.alloc o).grownBy W' cv.ownBlock) {g : Nat} (hv : cv'.ownBlock = some g) (hat : cv.ownBlock = some g ∨ g = W.heap.size + 1) : LP w W' cv' dv (us ++ [z]) ds :=
  h.push o hown ⟨hg.os, hg.tape, hg.output, hg.size, hg.block⟩ hv hat
end Go.Proofs.Ytkcchangkhklcaa
