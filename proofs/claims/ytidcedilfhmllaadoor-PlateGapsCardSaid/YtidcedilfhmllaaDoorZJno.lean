/- Contracts of package plate: what is returned for a shop or plate that is not valid; Follow, its lengths as letters. -/
import Derived.Test.YtidcedilfhmllaaDoorZ20
import Derived.Test.YtidcedilfhmllaaDoorZ13
set_option linter.unusedSimpArgs false
set_option linter.unusedVariables false
namespace Go.Proofs.YtidcedilfhmllaaDoor
open Go.RowKit

theorem cp_no (s m : Int) (a : Option Addr) (cap : Nat) (L : List Pl.Wk) (q : Nat) (hq : Hid (L.length = q)) (p : Int) (E : Int) (hE : Hid (Pl.cpl s m L p = E)) (w : World) (hL : Hid (WksAt w a L)) :
    Calls Tryd.prog 48 #[.agg #[.int .i64 s, .int .i64 m, .slice a q cap], .int .i64 p] w fun e w' => e = .returned (.int .i64 E) ∧ Below w.heap.size w w' := by
  have h := checkPlate_any s m a cap L p w hL
  have hc : (if Pl.chk s m L ≠ 0 then Pl.chk s m L else if Pl.ix p m then 0 else 1) = E := hE.out
  rw [hc, hq.out] at h
  exact h

set_option maxRecDepth 100000 in
set_option maxHeartbeats 2000000 in
theorem pSigns_no (s m : Int) (a : Option Addr) (cap : Nat) (L : List Pl.Wk) (q : Nat) (hq : Hid (L.length = q)) (p : Int) (E : Int) (hE : Hid (Pl.cpl s m L p = E)) (hE0 : E ≠ 0) (w : World) (hL : Hid (WksAt w a L)) :
    Calls Tryd.prog 32 #[.agg #[.int .i64 s, .int .i64 m, .slice a q cap], .int .i64 p] w fun e w' => e = .returned (.tuple #[.slice none 0 0, .int .i64 E]) ∧ Below w.heap.size w w' := by
  have HC := Lib.hid (fun (W : World) (hb : Below w.heap.size w W) => cp_no s m a cap L q hq p E hE W (Lib.hid (hL.out.below hb)))
  have n1 : (E != 0) = true := by simpa using hE0
  go_enter Tryd.func32, Tryd.ntmps32
  go_wp2_with fail
  refine (HC.out _ (by repeat (first | with_reducible exact Below.refl _ _ | with_reducible assumption | refine below_drewN ?_ _ | refine Below.drew ?_ | refine Below.alloc ?_ (by first | (simp; done) | (simp; omega) | omega) _ | refine Below.setCell ?_ (by first | (simp; done) | (simp; omega) | omega) _ | refine Below.trans ?_ (Below.mono (by assumption) (by first | (simp; done) | (simp; omega) | omega))))).mono ?_
  rintro e w1 ⟨rfl, hb1⟩
  have hbw : Below w.heap.size w w1 := (by repeat (first | with_reducible exact Below.refl _ _ | with_reducible assumption | refine below_drewN ?_ _ | refine Below.drew ?_ | refine Below.alloc ?_ (by first | (simp; done) | (simp; omega) | omega) _ | refine Below.setCell ?_ (by first | (simp; done) | (simp; omega) | omega) _ | refine Below.trans ?_ (Below.mono (by assumption) (by first | (simp; done) | (simp; omega) | omega))))
  clear hb1 HC
  go_wp2
  go_ret2
  exact ⟨rfl, hbw⟩

theorem follow_q (s m : Int) (a : Option Addr) (q cap : Nat) (L : List Pl.Wk) (hq : Hid (L.length = q)) (p : Int) (x : Option Addr) (n c : Nat) (l : List Int) (hn : l.length = n)
    (hi : Hid (∀ g ∈ l, -9223372036854775808 ≤ g ∧ g ≤ 9223372036854775807)) (w : World) (hL : WksAt w a L) (hl : NsAt w x l) :
    Calls Tryd.prog 33 #[.agg #[.int .i64 s, .int .i64 m, .slice a q cap], .int .i64 p, .slice x n c] w fun e w' => e = .returned (.tuple #[.int .i64 (Pl.fol s m L p l).1.p, .agg #[.int .i64 ((Pl.fol s m L p l).1.t : Int), .bool (Pl.fol s m L p l).1.m], .int .i64 (Pl.fol s m L p l).2]) ∧ Below w.heap.size w w' := by
  have h := pFollowP_any s m a cap L p x c l hi w (Lib.hid hL) (Lib.hid hl)
  rw [hq.out, hn] at h
  exact h
end Go.Proofs.YtidcedilfhmllaaDoor
