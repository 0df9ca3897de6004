/- What the laws' walks of layer 2 share: small, the law's post. -/
import Derived.Test.YtemacokojdeimaaGreatDoorZ07
set_option linter.unusedSimpArgs false
set_option linter.unusedVariables false
namespace Go.Proofs.YtemacokojdeimaaGreatDoor
open Go.RowKit

set_option maxRecDepth 100000 in
set_option maxHeartbeats 2000000 in
theorem small_any (n : Int) (a : Option Addr) (m cap : Nat) (b : Bool) (hb : Hid ((decide (m ≤ 310) && decide (n ≤ 70)) = b)) (w : World) :
    Calls Tryz.prog 5 #[sysV n a m cap] w fun e w' => e = .returned (.bool b) ∧ Below w.heap.size w w' := by
  unfold sysV
  by_cases h1 : m ≤ 310
  · have h2 : (m : Int) ≤ 310 := by omega
    by_cases h3 : n ≤ 70
    · obtain rfl : true = b := by rw [← hb.out]; simp [h1, h3]
      clear hb
      go_enter Tryz.func5, Tryz.ntmps5
      go_wp2
      go_ret
      exact ⟨rfl, (by repeat (first | with_reducible exact Below.refl _ _ | with_reducible assumption | refine below_drewN ?_ _ | refine Below.drew ?_ | refine Below.alloc ?_ (by first | (simp; done) | (simp; omega) | omega) _ | refine Below.setCell ?_ (by first | (simp; done) | (simp; omega) | omega) _ | refine Below.trans ?_ (Below.mono (by assumption) (by first | (simp; done) | (simp; omega) | omega))))⟩
    · obtain rfl : false = b := by rw [← hb.out]; simp [h3]
      clear hb
      go_enter Tryz.func5, Tryz.ntmps5
      go_wp2
      go_ret
      exact ⟨rfl, (by repeat (first | with_reducible exact Below.refl _ _ | with_reducible assumption | refine below_drewN ?_ _ | refine Below.drew ?_ | refine Below.alloc ?_ (by first | (simp; done) | (simp; omega) | omega) _ | refine Below.setCell ?_ (by first | (simp; done) | (simp; omega) | omega) _ | refine Below.trans ?_ (Below.mono (by assumption) (by first | (simp; done) | (simp; omega) | omega))))⟩
  · have h2 : ¬ (m : Int) ≤ 310 := by omega
    obtain rfl : false = b := by rw [← hb.out]; simp [h1]
    clear hb
    go_enter Tryz.func5, Tryz.ntmps5
    go_wp2
    go_ret
    exact ⟨rfl, (by repeat (first | with_reducible exact Below.refl _ _ | with_reducible assumption | refine below_drewN ?_ _ | refine Below.drew ?_ | refine Below.alloc ?_ (by first | (simp; done) | (simp; omega) | omega) _ | refine Below.setCell ?_ (by first | (simp; done) | (simp; omega) | omega) _ | refine Below.trans ?_ (Below.mono (by assumption) (by first | (simp; done) | (simp; omega) | omega))))⟩

def LawPost (w : World) (e : Ending) (w' : World) : Prop := e = .returned (.bool true) ∧ Below w.heap.size w w'
end Go.Proofs.YtemacokojdeimaaGreatDoor
