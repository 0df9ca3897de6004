/- What the laws' walks of layer 2 share: small, the law's post, the world with the system and two lists. -/
import Derived.Test.YtkcchangkhklcaaZ06
import Derived.Test.YtkcchangkhklcaaZFi
set_option linter.unusedSimpArgs false
set_option linter.unusedVariables false
namespace Go.Proofs.Ytkcchangkhklcaa
open Go.RowKit

set_option maxRecDepth 100000 in
set_option maxHeartbeats 2000000 in
theorem small_any (n : Int) (a : Option Addr) (m cap : Nat) (b : Bool) (hb : Hid ((decide (m ≤ 310) && decide (n ≤ 70)) = b)) (w : World) :
    Calls Try.prog 9 #[sysV n a m cap] w fun e w' => e = .returned (.bool b) ∧ Below w.heap.size w w' := by
  unfold sysV
  by_cases h1 : m ≤ 310
  · have h2 : (m : Int) ≤ 310 := by omega
    by_cases h3 : n ≤ 70
    · obtain rfl : true = b := by rw [← hb.out]; simp [h1, h3]
      clear hb
      go_enter Try.func9, Try.ntmps9
      go_wp2
      go_ret
      exact ⟨rfl, (by repeat (first | with_reducible exact Below.refl _ _ | with_reducible assumption | refine below_drewN ?_ _ | refine Below.drew ?_ | refine Below.alloc ?_ (by first | (simp; done) | (simp; omega) | omega) _ | refine Below.setCell ?_ (by first | (simp; done) | (simp; omega) | omega) _ | refine Below.trans ?_ (Below.mono (by assumption) (by first | (simp; done) | (simp; omega) | omega))))⟩
    · obtain rfl : false = b := by rw [← hb.out]; simp [h3]
      clear hb
      go_enter Try.func9, Try.ntmps9
      go_wp2
      go_ret
      exact ⟨rfl, (by repeat (first | with_reducible exact Below.refl _ _ | with_reducible assumption | refine below_drewN ?_ _ | refine Below.drew ?_ | refine Below.alloc ?_ (by first | (simp; done) | (simp; omega) | omega) _ | refine Below.setCell ?_ (by first | (simp; done) | (simp; omega) | omega) _ | refine Below.trans ?_ (Below.mono (by assumption) (by first | (simp; done) | (simp; omega) | omega))))⟩
  · have h2 : ¬ (m : Int) ≤ 310 := by omega
    obtain rfl : false = b := by rw [← hb.out]; simp [h1]
    clear hb
    go_enter Try.func9, Try.ntmps9
    go_wp2
    go_ret
    exact ⟨rfl, (by repeat (first | with_reducible exact Below.refl _ _ | with_reducible assumption | refine below_drewN ?_ _ | refine Below.drew ?_ | refine Below.alloc ?_ (by first | (simp; done) | (simp; omega) | omega) _ | refine Below.setCell ?_ (by first | (simp; done) | (simp; omega) | omega) _ | refine Below.trans ?_ (Below.mono (by assumption) (by first | (simp; done) | (simp; omega) | omega))))⟩

def LawPost (w : World) (e : Ending) (w' : World) : Prop := e = .returned (.bool true) ∧ Below w.heap.size w w'

/-- the world in the law: the system in its box, the lists -/
structure LJ (w : World) (n : Int) (a b d : Option Addr) (m cap : Nat) (L : List Ch.Lk) (xl xs : List Int) (W : World) : Prop where
  c0 : W.cell? ⟨w.heap.size, 0, none⟩ = some (.int .i64 n)
  c1 : W.cell? ⟨w.heap.size, 1, none⟩ = some (.slice a m cap)
  l : LksAt W a L
  x : IntsAt W b xl
  y : IntsAt W d xs
  b : Below w.heap.size w W
theorem LJ.below {w W W' : World} {n : Int} {a b d : Option Addr} {m cap : Nat} {L : List Ch.Lk} {xl xs : List Int} (h : LJ w n a b d m cap L xl xs W) (hb : Below W.heap.size W W') : LJ w n a b d m cap L xl xs W' := ⟨kept1 h.c0 hb, kept1 h.c1 hb, h.l.below hb, h.x.below hb, h.y.below hb, h.b.trans (hb.mono h.b.size)⟩

end Go.Proofs.Ytkcchangkhklcaa
