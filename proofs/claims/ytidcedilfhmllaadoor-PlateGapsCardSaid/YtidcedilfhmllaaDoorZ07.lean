/- What the claims of layer 3 share, part 7: several texts one behind the other. -/
import Derived.Test.YtidcedilfhmllaaDoorZ06
import Derived.Laws.EntriesVeiled
set_option linter.unusedSimpArgs false
set_option linter.unusedVariables false
/- Contracts of package plate: moves, Turn. -/
namespace Go.Proofs.YtidcedilfhmllaaDoor
open Go.RowKit

/-- what moves leaves -/
def MvPost (w : World) (side t : Nat) (e : Ending) (w' : World) : Prop := ∃ b2 b5, e = .returned (.func (.func 98) #[] #[.pointer (some ⟨b2, 0, none⟩), .pointer (some ⟨b5, 0, none⟩)]) ∧ Hid (MK b2 b5 side t w') ∧ Below w.heap.size w w' ∧ w.heap.size ≤ b2 ∧ w.heap.size ≤ b5
theorem tns_lit : tnsV = #[tV 1, tV 2, tV 2, tV 3, tV 3, tV 4, tV 4, tV 1, tV 1, tV 4, tV 2, tV 1, tV 3, tV 2, tV 4, tV 3] := rfl

set_option maxRecDepth 100000 in
set_option maxHeartbeats 4000000 in
theorem moves_at (side t : Nat) (r c : Nat) (hr : tId (Pl.tR t) = r) (hc : tId (Pl.tC t) = c) (hx : ∀ W : World, (Instr.index 119 (.agg tnsV) (.int .i64 (t : Int))).run Tryd.prog W = .ok (.agg #[.func (.func r) #[] #[], .func (.func c) #[] #[]]) W) (w : World) :
    Calls Tryd.prog 77 #[.int .i64 (side : Int), .int .i64 (t : Int)] w (MvPost w side t) := by
  have HT := Lib.hid (fun W => turnings_any W)
  have hmf : ∀ (fn : Fn) (first cap : Array Value) (w : World), (Instr.makeFunc fn first cap).run Tryd.prog w = .ok (.func fn first cap) w := fun _ _ _ _ => rfl
  go_enter Tryd.func77, Tryd.ntmps77
  go_wp2_with fail
  refine (HT.out _).mono ?_
  rintro e w1 ⟨rfl, hb1⟩
  have k0 : w1.cell? ⟨w.heap.size, 0, none⟩ = some (.int .i64 (side : Int)) := kept1 (by simp [go_sem]) hb1
  have hbw : Below w.heap.size w w1 := (by repeat (first | with_reducible exact Below.refl _ _ | with_reducible assumption | refine below_drewN ?_ _ | refine Below.drew ?_ | refine Below.alloc ?_ (by first | (simp; done) | (simp; omega) | omega) _ | refine Below.setCell ?_ (by first | (simp; done) | (simp; omega) | omega) _ | refine Below.trans ?_ (Below.mono (by assumption) (by first | (simp; done) | (simp; omega) | omega))))
  have hz := hbw.size
  have kA := cell_alloc k0 (Obj.cells #[.func (.func r) #[] #[], .func (.func c) #[] #[]] 118)
  clear hb1 HT
  go_wp2
  go_ret
  refine ⟨w.heap.size, w1.heap.size, rfl, Lib.hid ⟨kA, ?_, ?_⟩, below_alloc hbw _, Nat.le_refl _, hz⟩
  · show _ = some (Value.func (.func (tId (Pl.tR t))) #[] #[])
    rw [hr]; simp [go_sem]
  · show _ = some (Value.func (.func (tId (Pl.tC t))) #[] #[])
    rw [hc]; simp [go_sem]

theorem moves_any (side t : Nat) (ht : t < 8) (w : World) : Calls Tryd.prog 77 #[.int .i64 (side : Int), .int .i64 (t : Int)] w (MvPost w side t) := by
  have : t = 0 ∨ t = 1 ∨ t = 2 ∨ t = 3 ∨ t = 4 ∨ t = 5 ∨ t = 6 ∨ t = 7 := by omega
  rcases this with rfl | rfl | rfl | rfl | rfl | rfl | rfl | rfl <;> exact moves_at side _ _ _ rfl rfl (fun W => by rw [tns_lit]; simp [go_sem, Instr.index]; exact ⟨rfl, rfl⟩) w
end Go.Proofs.YtidcedilfhmllaaDoor

/- Contracts of package plate: Turn, Compose, Inverse. -/
namespace Go.Proofs.YtidcedilfhmllaaDoor
open Go.RowKit

theorem idx_tns (t : Nat) (ht : t < 8) (W : World) : (Instr.index 119 (.agg tnsV) (.int .i64 (t : Int))).run Tryd.prog W = .ok (.agg #[.func (.func (tId (Pl.tR t))) #[] #[], .func (.func (tId (Pl.tC t))) #[] #[]]) W := by
  have : t = 0 ∨ t = 1 ∨ t = 2 ∨ t = 3 ∨ t = 4 ∨ t = 5 ∨ t = 6 ∨ t = 7 := by omega
  rcases this with rfl | rfl | rfl | rfl | rfl | rfl | rfl | rfl <;> (rw [tns_lit]; simp [go_sem, Instr.index]; exact ⟨rfl, rfl⟩)

set_option maxRecDepth 100000 in
set_option maxHeartbeats 4000000 in
theorem pTurn_ok (side t x : Nat) (h1 : 1 ≤ side) (h6 : side ≤ 6) (ht : t < 8) (hx : x < side * side) (w : World) :
    Calls Tryd.prog 37 #[.int .i64 (side : Int), .int .i64 (t : Int), .int .i64 (x : Int)] w fun e w' => e = .returned (.tuple #[.int .i64 (Pl.tk side t x : Nat), .int .i64 0]) ∧ Below w.heap.size w w' := by
  have hs2 : ((side * side : Nat) : Int) = (side : Int) * (side : Int) := Int.natCast_mul _ _
  have hs3 : side * side ≤ 36 := Nat.mul_le_mul h6 h6
  have hs4 : (side : Int) * (side : Int) ≤ 36 := by omega
  have hs5 : (0 : Int) ≤ (side : Int) * (side : Int) := by omega
  have H1 := pSide_any (side : Int)
  rw [show Pl.sd (side : Int) = true from decide_eq_true (by omega)] at H1
  have H2 := pTurn_any (t : Int)
  rw [show Pl.ix (t : Int) 8 = true from decide_eq_true (by omega)] at H2
  have H3 := pIndex_any (x : Int) ((side : Int) * (side : Int))
  rw [show Pl.ix (x : Int) ((side : Int) * (side : Int)) = true from decide_eq_true (by rw [← hs2]; omega)] at H3
  have HT := Lib.hid (takeT_any t side x ht h1 h6 hx)
  unfold tnV tV at HT
  have hix := idx_tns t ht
  have HN := Lib.hid (fun W => turnings_any W)
  replace H1 := Lib.hid H1
  replace H2 := Lib.hid H2
  replace H3 := Lib.hid H3
  replace hs2 := Lib.hid hs2
  go_enter Tryd.func37, Tryd.ntmps37
  go_wp2_with fail
  refine (H1.out _).mono ?_
  rintro e w1 ⟨rfl, hw1⟩
  subst hw1
  go_wp2_with fail
  refine (H2.out _).mono ?_
  rintro e w1 ⟨rfl, hw1⟩
  subst hw1
  go_wp2_with fail
  refine (H3.out _).mono ?_
  rintro e w1 ⟨rfl, hw1⟩
  subst hw1
  go_wp2_with fail
  refine (HN.out _).mono ?_
  rintro e w2 ⟨rfl, hb2⟩
  go_wp2_with fail
  refine (HT.out _).mono ?_
  rintro e w3 ⟨rfl, hb3⟩
  go_wp2
  go_ret2
  exact ⟨rfl, hb2.trans (hb3.mono hb2.size)⟩

set_option maxHeartbeats 1000000 in
theorem pTurn_no (side t x : Int) (h : ¬ (Pl.sd side = true ∧ Pl.ix t 8 = true ∧ Pl.ix x (side * side) = true)) (w : World) :
    Calls Tryd.prog 37 #[.int .i64 side, .int .i64 t, .int .i64 x] w fun e w' => e = .returned (.tuple #[.int .i64 0, .int .i64 1]) ∧ Below w.heap.size w w' := by
  have H1 := pSide_any side
  have H2 := pTurn_any t
  have H3 := pIndex_any x (side * side)
  cases e1 : Pl.sd side
  · rw [e1] at H1
    replace H1 := Lib.hid H1
    clear h
    go_enter Tryd.func37, Tryd.ntmps37
    go_wp2_with fail
    refine (H1.out _).mono ?_
    rintro e w1 ⟨rfl, hw1⟩
    subst hw1
    go_wp2
    go_ret2
    exact ⟨rfl, Below.refl _ _⟩
  · rw [e1] at H1
    replace H1 := Lib.hid H1
    have hsd := of_decide_eq_true e1
    cases e2 : Pl.ix t 8
    · rw [e2] at H2
      replace H2 := Lib.hid H2
      clear h
      go_enter Tryd.func37, Tryd.ntmps37
      go_wp2_with fail
      refine (H1.out _).mono ?_
      rintro e w1 ⟨rfl, hw1⟩
      subst hw1
      go_wp2_with fail
      refine (H2.out _).mono ?_
      rintro e w1 ⟨rfl, hw1⟩
      subst hw1
      go_wp2
      go_ret2
      exact ⟨rfl, Below.refl _ _⟩
    · rw [e2] at H2
      replace H2 := Lib.hid H2
      have e3 : Pl.ix x (side * side) = false := by
        cases e3 : Pl.ix x (side * side)
        · rfl
        · exact (h ⟨e1, e2, e3⟩).elim
      rw [e3] at H3
      replace H3 := Lib.hid H3
      have hs5 : (0 : Int) ≤ side * side := Int.mul_nonneg (by omega) (by omega)
      have hs4 : side * side ≤ 36 := by
        have : side = 1 ∨ side = 2 ∨ side = 3 ∨ side = 4 ∨ side = 5 ∨ side = 6 := by omega
        rcases this with rfl | rfl | rfl | rfl | rfl | rfl <;> decide
      clear h e1 e2 e3 hsd
      go_enter Tryd.func37, Tryd.ntmps37
      go_wp2_with fail
      refine (H1.out _).mono ?_
      rintro e w1 ⟨rfl, hw1⟩
      subst hw1
      go_wp2_with fail
      refine (H2.out _).mono ?_
      rintro e w1 ⟨rfl, hw1⟩
      subst hw1
      go_wp2_with fail
      refine (H3.out _).mono ?_
      rintro e w1 ⟨rfl, hw1⟩
      subst hw1
      go_wp2
      go_ret2
      exact ⟨rfl, Below.refl _ _⟩
end Go.Proofs.YtidcedilfhmllaaDoor

/- Contracts of package plate: Compose, Inverse. -/
namespace Go.Proofs.YtidcedilfhmllaaDoor
open Go.RowKit

set_option maxHeartbeats 1000000 in
theorem pComposeP_ok (a b : Nat) (ha : a < 8) (hb : b < 8) (w : World) :
    Calls Tryd.prog 29 #[.int .i64 (a : Int), .int .i64 (b : Int)] w fun e w' => e = .returned (.tuple #[.int .i64 (Pl.cmp a b : Nat), .int .i64 0]) ∧ w' = w := by
  have H1 := pTurn_any (a : Int)
  rw [show Pl.ix (a : Int) 8 = true from decide_eq_true (by omega)] at H1
  have H2 := pTurn_any (b : Int)
  rw [show Pl.ix (b : Int) 8 = true from decide_eq_true (by omega)] at H2
  have H3 := Lib.hid (pCompose_any a b ha hb)
  replace H1 := Lib.hid H1
  replace H2 := Lib.hid H2
  go_enter Tryd.func29, Tryd.ntmps29
  go_wp2_with fail
  refine (H1.out _).mono ?_
  rintro e w1 ⟨rfl, hw1⟩
  subst hw1
  go_wp2_with fail
  refine (H2.out _).mono ?_
  rintro e w1 ⟨rfl, hw1⟩
  subst hw1
  go_wp2_with fail
  refine (H3.out _).mono ?_
  rintro e w1 ⟨rfl, hw1⟩
  subst hw1
  go_wp2
  go_ret2
  exact ⟨rfl, rfl⟩

set_option maxHeartbeats 1000000 in
theorem pComposeP_no (a b : Int) (h : ¬ (Pl.ix a 8 = true ∧ Pl.ix b 8 = true)) (w : World) :
    Calls Tryd.prog 29 #[.int .i64 a, .int .i64 b] w fun e w' => e = .returned (.tuple #[.int .i64 0, .int .i64 1]) ∧ w' = w := by
  have H1 := pTurn_any a
  have H2 := pTurn_any b
  cases e1 : Pl.ix a 8
  · rw [e1] at H1
    replace H1 := Lib.hid H1
    clear h
    go_enter Tryd.func29, Tryd.ntmps29
    go_wp2_with fail
    refine (H1.out _).mono ?_
    rintro e w1 ⟨rfl, hw1⟩
    subst hw1
    go_wp2
    go_ret2
    exact ⟨rfl, rfl⟩
  · rw [e1] at H1
    replace H1 := Lib.hid H1
    have e2 : Pl.ix b 8 = false := by
      cases e2 : Pl.ix b 8
      · rfl
      · exact (h ⟨e1, e2⟩).elim
    rw [e2] at H2
    replace H2 := Lib.hid H2
    clear h e1 e2
    go_enter Tryd.func29, Tryd.ntmps29
    go_wp2_with fail
    refine (H1.out _).mono ?_
    rintro e w1 ⟨rfl, hw1⟩
    subst hw1
    go_wp2_with fail
    refine (H2.out _).mono ?_
    rintro e w1 ⟨rfl, hw1⟩
    subst hw1
    go_wp2
    go_ret2
    exact ⟨rfl, rfl⟩

set_option maxHeartbeats 1000000 in
theorem pInverseP_ok (a : Nat) (ha : a < 8) (w : World) :
    Calls Tryd.prog 30 #[.int .i64 (a : Int)] w fun e w' => e = .returned (.tuple #[.int .i64 (Pl.inv a : Nat), .int .i64 0]) ∧ w' = w := by
  have H1 := pTurn_any (a : Int)
  rw [show Pl.ix (a : Int) 8 = true from decide_eq_true (by omega)] at H1
  have H3 := Lib.hid (pInverse_any a ha)
  replace H1 := Lib.hid H1
  go_enter Tryd.func30, Tryd.ntmps30
  go_wp2_with fail
  refine (H1.out _).mono ?_
  rintro e w1 ⟨rfl, hw1⟩
  subst hw1
  go_wp2_with fail
  refine (H3.out _).mono ?_
  rintro e w1 ⟨rfl, hw1⟩
  subst hw1
  go_wp2
  go_ret2
  exact ⟨rfl, rfl⟩

set_option maxHeartbeats 1000000 in
theorem pInverseP_no (a : Int) (h : Pl.ix a 8 = false) (w : World) :
    Calls Tryd.prog 30 #[.int .i64 a] w fun e w' => e = .returned (.tuple #[.int .i64 0, .int .i64 1]) ∧ w' = w := by
  have H1 := pTurn_any a
  rw [h] at H1
  replace H1 := Lib.hid H1
  clear h
  go_enter Tryd.func30, Tryd.ntmps30
  go_wp2_with fail
  refine (H1.out _).mono ?_
  rintro e w1 ⟨rfl, hw1⟩
  subst hw1
  go_wp2
  go_ret2
  exact ⟨rfl, rfl⟩
end Go.Proofs.YtidcedilfhmllaaDoor
