/- The law PlateTurns: Turn, Compose and Inverse return what the specification returns. -/
import Derived.Test.YtmkjmpkicmadcaaDoorZ29
import Derived.Test.YtmkjmpkicmadcaaDoorZJzz
import Derived.Test.YtmkjmpkicmadcaaDoorZJlp
set_option linter.unusedSimpArgs false
set_option linter.unusedVariables false
namespace Go.Proofs.YtmkjmpkicmadcaaDoor
open Go.RowKit

/-- both Turns give the same answer -/
theorem turn_both (side t x : Int) : ∃ u e : Int, (∀ W : World, Calls Tryd.prog 6 #[.int .i64 side, .int .i64 t, .int .i64 x] W fun r w' => r = .returned (.tuple #[.int .i64 u, .int .i64 e]) ∧ Below W.heap.size W w') ∧
    (∀ W : World, Calls Tryd.prog 9 #[.int .i64 side, .int .i64 t, .int .i64 x] W fun r w' => r = .returned (.tuple #[.int .i64 u, .int .i64 e]) ∧ Below W.heap.size W w') := by
  by_cases h : Pl.sd side = true ∧ Pl.ix t 8 = true ∧ Pl.ix x (side * side) = true
  · have h1 := of_decide_eq_true h.1
    have h2 := of_decide_eq_true h.2.1
    have h3 := of_decide_eq_true h.2.2
    obtain ⟨s, rfl⟩ : ∃ s : Nat, side = s := ⟨side.toNat, by omega⟩
    obtain ⟨y, rfl⟩ : ∃ y : Nat, t = y := ⟨t.toNat, by omega⟩
    obtain ⟨z, rfl⟩ : ∃ z : Nat, x = z := ⟨x.toNat, by omega⟩
    have hx : z < s * s := by have := h3.2; rw [← Int.natCast_mul] at this; omega
    exact ⟨_, _, fun W => pTurn_ok s y z (by omega) (by omega) (by omega) hx W, fun W => rTurn_ok s y z (by omega) (by omega) (by omega) hx W⟩
  · exact ⟨_, _, fun W => pTurn_no side t x h W, fun W => rTurn_no side t x h W⟩

set_option maxRecDepth 100000 in
set_option maxHeartbeats 2000000 in
theorem turns_none (side a b cell : Int) (h : Pl.ix a 8 = false) (w : World) (hT : Hid (Tab w.heap.size w)) :
    Calls Tryd.prog 3 #[.int .i64 side, .int .i64 a, .int .i64 b, .int .i64 cell] w (LawPost w) := by
  obtain ⟨u, ee, HT, HR⟩ := turn_both side a cell
  replace HT := Lib.hid HT
  replace HR := Lib.hid HR
  have HS := Lib.hid (fun (W : World) (hb : Below w.heap.size w W) => sanityP_any W (Lib.hid (Tab.mono (hT.out.on hb) hb.size)))
  have HC := Lib.hid (fun (W : World) => pComposeP_no a b (fun q => by rw [h] at q; exact absurd q.1 (by decide)) W)
  have HI := Lib.hid (fun (W : World) => pInverseP_no a h W)
  have HN := fun (W : World) => rIn_any a 0 7 W
  have e1 : decide ((0 : Int) ≤ a ∧ a ≤ 7) = false := decide_eq_false (by have := of_decide_eq_false h; omega)
  simp only [e1] at HN
  replace HN := Lib.hid HN
  clear h e1
  go_enter Tryd.func3, Tryd.ntmps3
  go_wp2_with fail
  refine (HT.out _).mono ?_
  rintro e w1 ⟨rfl, hb1⟩
  go_wp2_with fail
  refine (HC.out _).mono ?_
  rintro e w9 ⟨rfl, hw1⟩
  subst hw1
  go_wp2_with fail
  refine (HI.out _).mono ?_
  rintro e w9 ⟨rfl, hw1⟩
  subst hw1
  go_wp2_with fail
  refine (HR.out _).mono ?_
  rintro e w2 ⟨rfl, hb2⟩
  replace hb1 := hb1.trans (hb2.mono hb1.size)
  clear hb2
  go_wp2_with fail
  refine (HN.out _).mono ?_
  rintro e w9 ⟨rfl, hw1⟩
  subst hw1
  go_wp2_with fail
  refine (HS.out _ hb1).mono ?_
  rintro e w3 ⟨rfl, hb2⟩
  replace hb1 := hb1.trans (hb2.mono hb1.size)
  clear hb2
  go_wp2
  go_ret
  exact ⟨rfl, hb1⟩

set_option maxRecDepth 100000 in
set_option maxHeartbeats 2000000 in
theorem turns_one (side : Int) (a : Nat) (b cell : Int) (ha : a < 8) (h : Pl.ix b 8 = false) (w : World) (hT : Hid (Tab w.heap.size w)) :
    Calls Tryd.prog 3 #[.int .i64 side, .int .i64 (a : Int), .int .i64 b, .int .i64 cell] w (LawPost w) := by
  obtain ⟨u, ee, HT, HR⟩ := turn_both side (a : Int) cell
  replace HT := Lib.hid HT
  replace HR := Lib.hid HR
  have HS := Lib.hid (fun (W : World) (hb : Below w.heap.size w W) => sanityP_any W (Lib.hid (Tab.mono (hT.out.on hb) hb.size)))
  have HC := Lib.hid (fun (W : World) => pComposeP_no (a : Int) b (fun q => by rw [h] at q; exact absurd q.2 (by decide)) W)
  have HI := Lib.hid (fun (W : World) => pInverseP_ok a ha W)
  have HN := fun (W : World) => rIn_any (a : Int) 0 7 W
  have e1 : decide ((0 : Int) ≤ (a : Int) ∧ (a : Int) ≤ 7) = true := decide_eq_true (by omega)
  simp only [e1] at HN
  replace HN := Lib.hid HN
  have HM := fun (W : World) => rIn_any b 0 7 W
  have e2 : decide ((0 : Int) ≤ b ∧ b ≤ 7) = false := decide_eq_false (by have := of_decide_eq_false h; omega)
  simp only [e2] at HM
  replace HM := Lib.hid HM
  have HB := fun (W : World) => rBack_any a ha W
  rw [Pl.bck_eq ha] at HB
  replace HB := Lib.hid HB
  clear h e1 e2
  go_enter Tryd.func3, Tryd.ntmps3
  go_wp2_with fail
  refine (HT.out _).mono ?_
  rintro e w1 ⟨rfl, hb1⟩
  go_wp2_with fail
  refine (HC.out _).mono ?_
  rintro e w9 ⟨rfl, hw1⟩
  subst hw1
  go_wp2_with fail
  refine (HI.out _).mono ?_
  rintro e w9 ⟨rfl, hw1⟩
  subst hw1
  go_wp2_with fail
  refine (HR.out _).mono ?_
  rintro e w2 ⟨rfl, hb2⟩
  replace hb1 := hb1.trans (hb2.mono hb1.size)
  clear hb2
  go_wp2_with fail
  refine (HN.out _).mono ?_
  rintro e w9 ⟨rfl, hw1⟩
  subst hw1
  go_wp2_with fail
  refine (HM.out _).mono ?_
  rintro e w9 ⟨rfl, hw1⟩
  subst hw1
  go_wp2_with fail
  refine (HS.out _ hb1).mono ?_
  rintro e w3 ⟨rfl, hb2⟩
  replace hb1 := hb1.trans (hb2.mono hb1.size)
  clear hb2
  go_wp2_with fail
  refine (HB.out _).mono ?_
  rintro e w9 ⟨rfl, hw1⟩
  subst hw1
  go_wp2
  go_ret
  exact ⟨rfl, hb1⟩

set_option maxRecDepth 100000 in
set_option maxHeartbeats 2000000 in
theorem turns_two (side : Int) (a b : Nat) (cell : Int) (ha : a < 8) (hb : b < 8) (w : World) (hT : Hid (Tab w.heap.size w)) :
    Calls Tryd.prog 3 #[.int .i64 side, .int .i64 (a : Int), .int .i64 (b : Int), .int .i64 cell] w (LawPost w) := by
  obtain ⟨u, ee, HT, HR⟩ := turn_both side (a : Int) cell
  replace HT := Lib.hid HT
  replace HR := Lib.hid HR
  have HS := Lib.hid (fun (W : World) (hb : Below w.heap.size w W) => sanityP_any W (Lib.hid (Tab.mono (hT.out.on hb) hb.size)))
  have HC := Lib.hid (fun (W : World) => pComposeP_ok a b ha hb W)
  have HI := Lib.hid (fun (W : World) => pInverseP_ok a ha W)
  have HN := fun (W : World) => rIn_any (a : Int) 0 7 W
  have e1 : decide ((0 : Int) ≤ (a : Int) ∧ (a : Int) ≤ 7) = true := decide_eq_true (by omega)
  simp only [e1] at HN
  replace HN := Lib.hid HN
  have HM := fun (W : World) => rIn_any (b : Int) 0 7 W
  have e2 : decide ((0 : Int) ≤ (b : Int) ∧ (b : Int) ≤ 7) = true := decide_eq_true (by omega)
  simp only [e2] at HM
  replace HM := Lib.hid HM
  have HA := fun (W : World) => rAfter_any a b ha hb W
  rw [Pl.aft_eq ha hb] at HA
  replace HA := Lib.hid HA
  have HB := fun (W : World) => rBack_any a ha W
  rw [Pl.bck_eq ha] at HB
  replace HB := Lib.hid HB
  clear e1 e2
  go_enter Tryd.func3, Tryd.ntmps3
  go_wp2_with fail
  refine (HT.out _).mono ?_
  rintro e w1 ⟨rfl, hb1⟩
  go_wp2_with fail
  refine (HC.out _).mono ?_
  rintro e w9 ⟨rfl, hw1⟩
  subst hw1
  go_wp2_with fail
  refine (HI.out _).mono ?_
  rintro e w9 ⟨rfl, hw1⟩
  subst hw1
  go_wp2_with fail
  refine (HR.out _).mono ?_
  rintro e w2 ⟨rfl, hb2⟩
  replace hb1 := hb1.trans (hb2.mono hb1.size)
  clear hb2
  go_wp2_with fail
  refine (HN.out _).mono ?_
  rintro e w9 ⟨rfl, hw1⟩
  subst hw1
  go_wp2_with fail
  refine (HM.out _).mono ?_
  rintro e w9 ⟨rfl, hw1⟩
  subst hw1
  go_wp2_with fail
  refine (HA.out _).mono ?_
  rintro e w9 ⟨rfl, hw1⟩
  subst hw1
  go_wp2_with fail
  refine (HS.out _ hb1).mono ?_
  rintro e w3 ⟨rfl, hb2⟩
  replace hb1 := hb1.trans (hb2.mono hb1.size)
  clear hb2
  go_wp2_with fail
  refine (HB.out _).mono ?_
  rintro e w9 ⟨rfl, hw1⟩
  subst hw1
  go_wp2
  go_ret
  exact ⟨rfl, hb1⟩

theorem plateTurns_true (w : World) (side a b cell : Int) (hT : Hid (Tab w.heap.size w)) :
    Calls Tryd.prog 3 #[.int .i64 side, .int .i64 a, .int .i64 b, .int .i64 cell] w (LawPost w) := by
  cases h : Pl.ix a 8
  · exact turns_none side a b cell h w hT
  · have h1 := of_decide_eq_true h
    obtain ⟨x, rfl⟩ : ∃ x : Nat, a = x := ⟨a.toNat, by omega⟩
    cases k : Pl.ix b 8
    · exact turns_one side x b cell (by omega) k w hT
    · have h2 := of_decide_eq_true k
      obtain ⟨y, rfl⟩ : ∃ y : Nat, b = y := ⟨b.toNat, by omega⟩
      exact turns_two side x y cell (by omega) (by omega) w hT
end Go.Proofs.YtmkjmpkicmadcaaDoor
