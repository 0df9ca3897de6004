/- Contracts of the laws of layer 3: small, asked. -/
import Derived.Test.YtidcedilfhmllaaDoorZJzzc
import Derived.Test.YtidcedilfhmllaaDoorZ13
set_option linter.unusedSimpArgs false
set_option linter.unusedVariables false
namespace Go.Proofs.YtidcedilfhmllaaDoor
open Go.RowKit

set_option maxHeartbeats 1000000 in
theorem pSmall_any (s m : Int) (a : Option Addr) (q cap : Nat) (b : Bool) (hb : Hid (decide (q ≤ 20) = b)) (w : World) :
    Calls Tryd.prog 15 #[.agg #[.int .i64 s, .int .i64 m, .slice a q cap]] w fun e w' => e = .returned (.bool b) ∧ Below w.heap.size w w' := by
  by_cases h1 : q ≤ 20
  · have h2 : (q : Int) ≤ 20 := by omega
    obtain rfl : true = b := by rw [← hb.out]; simp [h1]
    clear hb
    go_enter Tryd.func15, Tryd.ntmps15
    go_wp2
    go_ret
    exact ⟨rfl, (by repeat (first | with_reducible exact Below.refl _ _ | with_reducible assumption | refine below_drewN ?_ _ | refine Below.drew ?_ | refine Below.alloc ?_ (by first | (simp; done) | (simp; omega) | omega) _ | refine Below.setCell ?_ (by first | (simp; done) | (simp; omega) | omega) _ | refine Below.trans ?_ (Below.mono (by assumption) (by first | (simp; done) | (simp; omega) | omega))))⟩
  · have h2 : ¬ (q : Int) ≤ 20 := by omega
    obtain rfl : false = b := by rw [← hb.out]; simp [h1]
    clear hb
    go_enter Tryd.func15, Tryd.ntmps15
    go_wp2
    go_ret
    exact ⟨rfl, (by repeat (first | with_reducible exact Below.refl _ _ | with_reducible assumption | refine below_drewN ?_ _ | refine Below.drew ?_ | refine Below.alloc ?_ (by first | (simp; done) | (simp; omega) | omega) _ | refine Below.setCell ?_ (by first | (simp; done) | (simp; omega) | omega) _ | refine Below.trans ?_ (Below.mono (by assumption) (by first | (simp; done) | (simp; omega) | omega))))⟩

set_option maxHeartbeats 1000000 in
/-- asked: the error of a shop and the number of a plate -/
theorem pAsked_any (s m : Int) (a : Option Addr) (cap : Nat) (L : List Pl.Wk) (q : Nat) (hq : Hid (L.length = q)) (p : Int) (w : World) (hL : Hid (WksAt w a L)) :
    Calls Tryd.prog 19 #[.agg #[.int .i64 s, .int .i64 m, .slice a q cap], .int .i64 p] w fun e w' => e = .returned (.int .i64 (Pl.cpl s m L p)) ∧ Below w.heap.size w w' := by
  have HC := fun (W : World) (hb : Below w.heap.size w W) => rCheck_any s m a cap L W (Lib.hid (hL.out.below hb))
  rw [hq.out] at HC
  replace HC := Lib.hid HC
  have HI := rInM_any p m
  have hm := fun h => (Pl.chk_ok (side := s) (m := m) (W := L) h).2.1
  unfold Pl.cpl
  generalize Pl.chk s m L = er at *
  generalize Pl.ix p m = ib at *
  replace HI := Lib.hid HI
  unfold shV at *
  go_enter Tryd.func19, Tryd.ntmps19
  go_wp2_with fail
  refine (HC.out _ (by repeat (first | with_reducible exact Below.refl _ _ | with_reducible assumption | refine below_drewN ?_ _ | refine Below.drew ?_ | refine Below.alloc ?_ (by first | (simp; done) | (simp; omega) | omega) _ | refine Below.setCell ?_ (by first | (simp; done) | (simp; omega) | omega) _ | refine Below.trans ?_ (Below.mono (by assumption) (by first | (simp; done) | (simp; omega) | omega))))).mono ?_
  rintro e w1 ⟨rfl, hb1⟩
  have k1 : w1.cell? ⟨w.heap.size, 1, none⟩ = some (.int .i64 m) := kept1 (by simp [go_sem]) hb1
  have hbw : Below w.heap.size w w1 := (by repeat (first | with_reducible exact Below.refl _ _ | with_reducible assumption | refine below_drewN ?_ _ | refine Below.drew ?_ | refine Below.alloc ?_ (by first | (simp; done) | (simp; omega) | omega) _ | refine Below.setCell ?_ (by first | (simp; done) | (simp; omega) | omega) _ | refine Below.trans ?_ (Below.mono (by assumption) (by first | (simp; done) | (simp; omega) | omega))))
  clear hb1 HC
  by_cases h0 : er = 0
  · subst h0
    have ⟨m1, m2⟩ := hm rfl
    clear hm
    go_wp2_with fail
    refine (HI.out _).mono ?_
    rintro e w2 ⟨rfl, hw2⟩
    subst hw2
    cases ib
    · go_wp2
      go_ret
      exact ⟨rfl, hbw⟩
    · go_wp2
      go_ret
      exact ⟨rfl, hbw⟩
  · have n0 : (er == 0) = false := by simpa using h0
    clear hm
    go_wp2
    go_ret
    exact ⟨ret_i64 (by first | rfl | rw [if_pos h0]), hbw⟩
end Go.Proofs.YtidcedilfhmllaaDoor
