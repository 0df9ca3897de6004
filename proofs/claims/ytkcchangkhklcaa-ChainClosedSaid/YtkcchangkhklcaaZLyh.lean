/- The law ChainClosed: what its walks share. -/
import Derived.Test.YtkcchangkhklcaaZUm
import Derived.Test.YtkcchangkhklcaaZTt
import Derived.Test.YtkcchangkhklcaaZGl
import Derived.Test.YtkcchangkhklcaaZRn
import Derived.Test.YtkcchangkhklcaaZ06
import Derived.Test.YtkcchangkhklcaaZYa
import Derived.Deep.RegionHeld
set_option linter.unusedSimpArgs false
set_option linter.unusedVariables false
namespace Go.Proofs.Ytkcchangkhklcaa
open Go.RowKit

/-- operation i of a drawn region is taken first -/
theorem tk {P : Program} {ops : Array Oper} {Q : Exit → Act → World → Prop} {S : World → Prop} (i : Nat) {o : Oper} {v : Value} {fuel : Nat} {l : Array Bool} {a : Act} {w : World} (hi : ops[i]? = some o)
    (hc : (Region.noSelect ops && (Region.free .any ops l i && ((Region.ready .any ops l).contains i && Region.wanted o (yielded ops a.tmps)))) = true) (hQ : ∀ c a w, Q (.panic c) (a.put o.dst v) w → Q (.panic c) a w) (hS : S w)
    (hy : ∀ w, S w → (execOp a.eval o).run P w = .ok (.value v) w) (h : wpAnyH P .any ops Q S fuel (l.setIfInBounds i true) (a.put o.dst v) w) : wpAnyH P .any ops Q S (fuel + 1) l a w := by
  simp only [Bool.and_eq_true] at hc
  exact wpAnyH_take hi hc.1 hc.2.1 hc.2.2.1 hQ (Or.inl ⟨hc.2.2.2, hy⟩) hS h
/-- .. and one whose guard is false -/
theorem sk {P : Program} {ops : Array Oper} {Q : Exit → Act → World → Prop} {S : World → Prop} (i : Nat) {o : Oper} {fuel : Nat} {l : Array Bool} {a : Act} {w : World} (hi : ops[i]? = some o)
    (hc : (Region.noSelect ops && (Region.free .any ops l i && ((Region.ready .any ops l).contains i && !Region.wanted o (yielded ops a.tmps)))) = true) (hQ : ∀ c a w, Q (.panic c) (a.put o.dst undef) w → Q (.panic c) a w) (hS : S w)
    (h : wpAnyH P .any ops Q S fuel (l.setIfInBounds i true) (a.put o.dst undef) w) : wpAnyH P .any ops Q S (fuel + 1) l a w := by
  simp only [Bool.and_eq_true, Bool.not_eq_true'] at hc
  exact wpAnyH_take hi hc.1 hc.2.1 hc.2.2.1 hQ (Or.inr ⟨hc.2.2.2, rfl⟩) hS h
theorem sp_lo {lo up : List Int} {N i : Nat} (h : i < N) : spF lo up N (i * 2) = .int .i64 (lo.getD i 0) := by
  unfold spF
  rw [show i * 2 / 2 = i by omega, if_pos h, if_pos (by omega)]
theorem sp_hi {lo up : List Int} {N i : Nat} (h : i < N) : spF lo up N (i * 2 + 1) = .int .i64 (up.getD i 0) := by
  unfold spF
  rw [show (i * 2 + 1) / 2 = i by omega, if_pos h, if_neg (by omega)]
end Go.Proofs.Ytkcchangkhklcaa
