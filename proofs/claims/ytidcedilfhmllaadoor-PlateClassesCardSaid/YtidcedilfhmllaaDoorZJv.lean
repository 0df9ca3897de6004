/- Contracts of the specification of layer 3: After, Back. -/
import Derived.Test.YtidcedilfhmllaaDoorZJu
import Derived.Test.YtidcedilfhmllaaDoorZ03
set_option linter.unusedSimpArgs false
set_option linter.unusedVariables false
namespace Pl
theorem find_at {P : Nat → Bool} {k : Nat} (h : k < 8) : ((List.range 8).drop k).find? P = if P k then some k else ((List.range 8).drop (k + 1)).find? P := by
  rw [List.drop_eq_getElem_cons (by simpa using h), List.find?_cons]
  simp only [List.getElem_range]
  cases P k <;> rfl
theorem aft_ex {a b : Nat} (ha : a < 8) (hb : b < 8) : ((List.range 8).find? fun t => tk 4 t 1 == tk 4 b (tk 4 a 1)).isSome = true := by
  have h : (List.range 8).all (fun a => (List.range 8).all fun b => ((List.range 8).find? fun t => tk 4 t 1 == tk 4 b (tk 4 a 1)).isSome) = true := by decide +kernel
  exact range_all (range_all h ha) hb
theorem tk_16 {a x : Nat} (ha : a < 8) (hx : x < 16) : tk 4 a x < 16 := by
  have h : (List.range 8).all (fun a => (List.range 16).all fun x => decide (tk 4 a x < 16)) = true := by decide +kernel
  exact of_decide_eq_true (range_all (range_all h ha) hx)
theorem bck_ex {a : Nat} (ha : a < 8) : ((List.range 8).find? fun t => aft a t == 0).isSome = true := by
  have h : (List.range 8).all (fun a => ((List.range 8).find? fun t => aft a t == 0).isSome) = true := by decide +kernel
  exact range_all h ha
end Pl
namespace Go.Proofs.YtidcedilfhmllaaDoor
open Go.RowKit

set_option maxRecDepth 100000 in
set_option maxHeartbeats 2000000 in
theorem rAfter_any (a b : Nat) (ha : a < 8) (hb : b < 8) (w : World) :
    Calls Tryd.prog 100 #[.int .i64 (a : Int), .int .i64 (b : Int)] w fun e w' => e = .returned (.int .i64 (Pl.aft a b : Nat)) ∧ w' = w := by
  have H4 := fun (t : Nat) (ht : t < 8) (x : Nat) (hx : x < 16) (W : World) => pTurned_any 4 t x (by omega) (by omega) ht hx W
  have H1 := H4 a ha 1 (by omega)
  have hy := Pl.tk_16 ha (show 1 < 16 by omega)
  rw [Pl.turned_eq (by omega) (by omega) ha] at H1
  have H2 := H4 b hb _ hy
  rw [Pl.turned_eq (by omega) hy hb] at H2
  have H3 : ∀ t : Nat, t < 8 → ∀ W : World, Calls Tryd.prog 47 #[.int .i64 4, .int .i64 (t : Int), .int .i64 1] W fun e w' => e = .returned (.int .i64 (Pl.tk 4 t 1 : Nat)) ∧ w' = W := fun t ht W => by
    have h := H4 t ht 1 (by omega) W
    rw [Pl.turned_eq (by omega) (by omega) ht] at h
    exact h
  have hex := Pl.aft_ex ha hb
  have haf : Pl.aft a b = ((List.range 8).find? fun t => Pl.tk 4 t 1 == Pl.tk 4 b (Pl.tk 4 a 1)).getD 0 := rfl
  rw [haf]
  clear haf H4
  generalize Pl.tk 4 b (Pl.tk 4 a 1) = z at *
  generalize Pl.tk 4 a 1 = y at *
  obtain ⟨R, hR⟩ : ∃ R, ((List.range 8).find? fun t => Pl.tk 4 t 1 == z) = R := ⟨_, rfl⟩
  rw [hR] at hex ⊢
  have hR0 : Hid (((List.range 8).drop 0).find? (fun t => Pl.tk 4 t 1 == z) = R) := Lib.hid hR
  replace H1 := Lib.hid H1
  replace H2 := Lib.hid H2
  replace H3 := Lib.hid H3
  clear hR
  go_enter Tryd.func100, Tryd.ntmps100
  go_wp2_with fail
  refine (H1.out _).mono ?_
  rintro e w1 ⟨rfl, hw1⟩
  subst hw1
  go_wp2_with fail
  refine (H2.out _).mono ?_
  rintro e w1 ⟨rfl, hw1⟩
  subst hw1
  go_wp2
  go_loopw [6] (fun i wr => ∃ k : Nat, k ≤ 8 ∧ i = .int .i64 (k : Int) ∧ wr = w1 ∧ Hid (((List.range 8).drop k).find? (fun t => Pl.tk 4 t 1 == z) = R)) (fun i _ => 8 - (RowKit.intOf i).toNat)
  case atStart => exact ⟨0, Nat.zero_le _, rfl, rfl, hR0⟩
  case round =>
    obtain ⟨k, hk, rfl, rfl, hf⟩ := hrel
    by_cases hlt : k < 8
    · have i1 : (k : Int) < 8 := by omega
      have hst := Pl.find_at (P := fun t => Pl.tk 4 t 1 == z) hlt
      rw [hf.out] at hst
      have HT := H3.out k hlt
      generalize Pl.tk 4 k 1 = u at *
      replace HT := Lib.hid HT
      by_cases hu : u = z
      · have n1 : ((u : Int) == (z : Int)) = true := by rw [hu]; simp
        have hRk : R = some k := by rw [hst, if_pos (by simpa using hu)]
        subst hRk
        clear hst hf
        go_wp2_with fail
        refine (HT.out _).mono ?_
        rintro e w2 ⟨rfl, hw2⟩
        subst hw2
        go_wp2
        go_ret
        exact ⟨rfl, rfl⟩
      · have n1 : ((u : Int) == (z : Int)) = false := by rw [beq_eq_false_iff_ne]; omega
        have hf2 : Hid (((List.range 8).drop (k + 1)).find? (fun t => Pl.tk 4 t 1 == z) = R) := Lib.hid (by rw [hst, if_neg (by simpa using hu)])
        clear hst hf
        go_wp2_with fail
        refine (HT.out _).mono ?_
        rintro e w2 ⟨rfl, hw2⟩
        subst hw2
        go_wp2
        go_roundw
        case rel => exact ⟨k + 1, by omega, by go_num, by first | rfl | trivial, hf2⟩
        case measure => first | (simp [RowKit.intOf]; done) | (simp [RowKit.intOf]; omega) | omega
    · exfalso
      obtain rfl : k = 8 := by omega
      have h9 := hf.out
      rw [show (List.range 8).drop 8 = [] from rfl] at h9
      subst h9
      cases hex

set_option maxRecDepth 100000 in
set_option maxHeartbeats 2000000 in
theorem rBack_any (a : Nat) (ha : a < 8) (w : World) :
    Calls Tryd.prog 101 #[.int .i64 (a : Int)] w fun e w' => e = .returned (.int .i64 (Pl.bck a : Nat)) ∧ w' = w := by
  have H3 := fun (t : Nat) (ht : t < 8) (W : World) => rAfter_any a t ha ht W
  have hex := Pl.bck_ex ha
  have haf : Pl.bck a = ((List.range 8).find? fun t => Pl.aft a t == 0).getD 0 := rfl
  rw [haf]
  clear haf
  obtain ⟨R, hR⟩ : ∃ R, ((List.range 8).find? fun t => Pl.aft a t == 0) = R := ⟨_, rfl⟩
  rw [hR] at hex ⊢
  have hR0 : Hid (((List.range 8).drop 0).find? (fun t => Pl.aft a t == 0) = R) := Lib.hid hR
  replace H3 := Lib.hid H3
  clear hR
  go_enter Tryd.func101, Tryd.ntmps101
  go_wp2
  go_loopw [3] (fun i wr => ∃ k : Nat, k ≤ 8 ∧ i = .int .i64 (k : Int) ∧ wr = w ∧ Hid (((List.range 8).drop k).find? (fun t => Pl.aft a t == 0) = R)) (fun i _ => 8 - (RowKit.intOf i).toNat)
  case atStart => exact ⟨0, Nat.zero_le _, rfl, rfl, hR0⟩
  case round =>
    obtain ⟨k, hk, rfl, rfl, hf⟩ := hrel
    by_cases hlt : k < 8
    · have i1 : (k : Int) < 8 := by omega
      have hst := Pl.find_at (P := fun t => Pl.aft a t == 0) hlt
      rw [hf.out] at hst
      have HT := H3.out k hlt
      generalize Pl.aft a k = u at *
      replace HT := Lib.hid HT
      by_cases hu : u = 0
      · have n1 : ((u : Int) == 0) = true := by rw [hu]; rfl
        have hRk : R = some k := by rw [hst, if_pos (by simpa using hu)]
        subst hRk
        clear hst hf hu
        go_wp2_with fail
        refine (HT.out _).mono ?_
        rintro e w2 ⟨rfl, hw2⟩
        subst hw2
        go_wp2
        go_ret
        exact ⟨rfl, rfl⟩
      · have n1 : ((u : Int) == 0) = false := by rw [beq_eq_false_iff_ne]; omega
        have hf2 : Hid (((List.range 8).drop (k + 1)).find? (fun t => Pl.aft a t == 0) = R) := Lib.hid (by rw [hst, if_neg (by simpa using hu)])
        clear hst hf hu
        go_wp2_with fail
        refine (HT.out _).mono ?_
        rintro e w2 ⟨rfl, hw2⟩
        subst hw2
        go_wp2
        go_roundw
        case rel => exact ⟨k + 1, by omega, by go_num, by first | rfl | trivial, hf2⟩
        case measure => first | (simp [RowKit.intOf]; done) | (simp [RowKit.intOf]; omega) | omega
    · exfalso
      obtain rfl : k = 8 := by omega
      have h9 := hf.out
      rw [show (List.range 8).drop 8 = [] from rfl] at h9
      subst h9
      cases hex
end Go.Proofs.YtidcedilfhmllaaDoor
