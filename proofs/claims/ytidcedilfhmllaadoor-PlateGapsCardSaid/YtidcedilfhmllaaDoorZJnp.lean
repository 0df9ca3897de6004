/- Contracts of package plate: Classes, Freedom, Flat of a shop or plate that is not valid; equal lists compared. -/
import Derived.Test.YtidcedilfhmllaaDoorZJno
import Derived.Test.YtidcedilfhmllaaDoorZ13
set_option linter.unusedSimpArgs false
set_option linter.unusedVariables false
namespace Go.Proofs.YtidcedilfhmllaaDoor
open Go.RowKit
set_option linter.unusedVariables false

set_option maxRecDepth 100000 in
set_option maxHeartbeats 2000000 in
theorem pClasses_no (s m : Int) (a : Option Addr) (cap : Nat) (L : List Pl.Wk) (q : Nat) (hq : Hid (L.length = q)) (p : Int) (E : Int) (hE : Hid (Pl.cpl s m L p = E)) (hE0 : E ≠ 0) (w : World) (hL : Hid (WksAt w a L)) :
    Calls Tryd.prog 16 #[.agg #[.int .i64 s, .int .i64 m, .slice a q cap], .int .i64 p] w fun e w' => e = .returned (.tuple #[.slice none 0 0, .slice none 0 0, .int .i64 E]) ∧ Below w.heap.size w w' := by
  have HC := Lib.hid (fun (W : World) (hb : Below w.heap.size w W) => cp_no s m a cap L q hq p E hE W (Lib.hid (hL.out.below hb)))
  have n1 : (E != 0) = true := by simpa using hE0
  go_enter Tryd.func16, Tryd.ntmps16
  go_wp2_with fail
  refine (HC.out _ (by repeat (first | with_reducible exact Below.refl _ _ | with_reducible assumption | refine below_drewN ?_ _ | refine Below.drew ?_ | refine Below.alloc ?_ (by first | (simp; done) | (simp; omega) | omega) _ | refine Below.setCell ?_ (by first | (simp; done) | (simp; omega) | omega) _ | refine Below.trans ?_ (Below.mono (by assumption) (by first | (simp; done) | (simp; omega) | omega))))).mono ?_
  rintro e w1 ⟨rfl, hb1⟩
  have hbw : Below w.heap.size w w1 := (by repeat (first | with_reducible exact Below.refl _ _ | with_reducible assumption | refine below_drewN ?_ _ | refine Below.drew ?_ | refine Below.alloc ?_ (by first | (simp; done) | (simp; omega) | omega) _ | refine Below.setCell ?_ (by first | (simp; done) | (simp; omega) | omega) _ | refine Below.trans ?_ (Below.mono (by assumption) (by first | (simp; done) | (simp; omega) | omega))))
  clear hb1 HC
  go_wp2
  go_ret3
  exact ⟨rfl, hbw⟩
set_option maxRecDepth 100000 in
set_option maxHeartbeats 2000000 in
theorem pFreedom_no (s m : Int) (a : Option Addr) (cap : Nat) (L : List Pl.Wk) (q : Nat) (hq : Hid (L.length = q)) (p : Int) (E : Int) (hE : Hid (Pl.cpl s m L p = E)) (hE0 : E ≠ 0) (w : World) (hL : Hid (WksAt w a L)) :
    Calls Tryd.prog 17 #[.agg #[.int .i64 s, .int .i64 m, .slice a q cap], .int .i64 p] w fun e w' => e = .returned (.tuple #[.int .i64 0, .int .i64 E]) ∧ Below w.heap.size w w' := by
  have HC := Lib.hid (fun (W : World) (hb : Below w.heap.size w W) => cp_no s m a cap L q hq p E hE W (Lib.hid (hL.out.below hb)))
  have n1 : (E != 0) = true := by simpa using hE0
  go_enter Tryd.func17, Tryd.ntmps17
  go_wp2_with fail
  refine (HC.out _ (by repeat (first | with_reducible exact Below.refl _ _ | with_reducible assumption | refine below_drewN ?_ _ | refine Below.drew ?_ | refine Below.alloc ?_ (by first | (simp; done) | (simp; omega) | omega) _ | refine Below.setCell ?_ (by first | (simp; done) | (simp; omega) | omega) _ | refine Below.trans ?_ (Below.mono (by assumption) (by first | (simp; done) | (simp; omega) | omega))))).mono ?_
  rintro e w1 ⟨rfl, hb1⟩
  have hbw : Below w.heap.size w w1 := (by repeat (first | with_reducible exact Below.refl _ _ | with_reducible assumption | refine below_drewN ?_ _ | refine Below.drew ?_ | refine Below.alloc ?_ (by first | (simp; done) | (simp; omega) | omega) _ | refine Below.setCell ?_ (by first | (simp; done) | (simp; omega) | omega) _ | refine Below.trans ?_ (Below.mono (by assumption) (by first | (simp; done) | (simp; omega) | omega))))
  clear hb1 HC
  go_wp2
  go_ret2
  exact ⟨rfl, hbw⟩
set_option maxRecDepth 100000 in
set_option maxHeartbeats 2000000 in
theorem pFlat_no (s m : Int) (a : Option Addr) (cap : Nat) (L : List Pl.Wk) (q : Nat) (hq : Hid (L.length = q)) (p : Int) (E : Int) (hE : Hid (Pl.cpl s m L p = E)) (hE0 : E ≠ 0) (w : World) (hL : Hid (WksAt w a L)) :
    Calls Tryd.prog 18 #[.agg #[.int .i64 s, .int .i64 m, .slice a q cap], .int .i64 p] w fun e w' => e = .returned (.tuple #[.bool false, .int .i64 E]) ∧ Below w.heap.size w w' := by
  have HC := Lib.hid (fun (W : World) (hb : Below w.heap.size w W) => cp_no s m a cap L q hq p E hE W (Lib.hid (hL.out.below hb)))
  have n1 : (E != 0) = true := by simpa using hE0
  go_enter Tryd.func18, Tryd.ntmps18
  go_wp2_with fail
  refine (HC.out _ (by repeat (first | with_reducible exact Below.refl _ _ | with_reducible assumption | refine below_drewN ?_ _ | refine Below.drew ?_ | refine Below.alloc ?_ (by first | (simp; done) | (simp; omega) | omega) _ | refine Below.setCell ?_ (by first | (simp; done) | (simp; omega) | omega) _ | refine Below.trans ?_ (Below.mono (by assumption) (by first | (simp; done) | (simp; omega) | omega))))).mono ?_
  rintro e w1 ⟨rfl, hb1⟩
  have hbw : Below w.heap.size w w1 := (by repeat (first | with_reducible exact Below.refl _ _ | with_reducible assumption | refine below_drewN ?_ _ | refine Below.drew ?_ | refine Below.alloc ?_ (by first | (simp; done) | (simp; omega) | omega) _ | refine Below.setCell ?_ (by first | (simp; done) | (simp; omega) | omega) _ | refine Below.trans ?_ (Below.mono (by assumption) (by first | (simp; done) | (simp; omega) | omega))))
  clear hb1 HC
  go_wp2
  go_ret2
  exact ⟨rfl, hbw⟩
theorem sameInts_eq (a b : Option Addr) (N c d : Nat) (l : List Int) (hl : l.length = N) (hN : N ≤ 1000) (w : World) (h1 : NsAt w a l) (h2 : NsAt w b l) :
    Calls Tryd.prog 13 #[.slice a N c, .slice b N d] w fun e w' => e = .returned (.bool true) ∧ Below w.heap.size w w' := by
  have h := pSameInts_any a b c d l l (by omega) w h1 h2
  rw [hl] at h
  refine h.mono ?_
  rintro e w' ⟨rfl, hb⟩
  exact ⟨by simp, hb⟩
end Go.Proofs.YtidcedilfhmllaaDoor
