/- The specification's digits. -/
import Derived.Test.YtemacokojdeimaaGreatDoorZPl
import Derived.Laws.IdiomStrings
set_option linter.unusedSimpArgs false
set_option linter.unusedVariables false
namespace Go.Proofs.YtemacokojdeimaaGreatDoor
open Go.RowKit

theorem conv_one (x : Int) (h1 : 48 ≤ x) (h2 : x ≤ 57) (W : World) :
    Sem.run Tryz.prog (convert 59 9 (.slice (some ⟨W.heap.size, 0, none⟩) 1 1)) (W.alloc (Obj.cells #[.int .u8 x] 5)) = .ok (.string ⟨#[UInt8.ofNat x.toNat]⟩) (W.alloc (Obj.cells #[.int .u8 x] 5)) := by
  refine run_convert_bytes_back _ _ _ 5 ⟨W.heap.size, 0, none⟩ 1 [UInt8.ofNat x.toNat] Tryz.underlying59 Tryz.underlying5 Tryz.underlying9 ?_
  intro j hj
  obtain rfl : j = 0 := by simp at hj; omega
  have e : ((UInt8.ofNat x.toNat).toNat : Int) = x := by rw [UInt8.toNat_ofNat']; omega
  simp only [List.getElem_cons_zero]
  rw [e]
  simp [go_sem, Addr.add]

theorem dec_step (N : Nat) (h : 10 ≤ N) : Lib.decDigits N = Lib.decDigits (N / 10) ++ [UInt8.ofNat (48 + N % 10)] := by
  rw [Lib.decDigits, dif_neg (by omega)]
theorem dec_small (N : Nat) (h : N < 10) : Lib.decDigits N = [UInt8.ofNat (48 + N % 10)] := by
  rw [Lib.decDigits, dif_pos h, Nat.mod_eq_of_lt h]
theorem dec_len (N : Nat) (h : N ≤ 9223372036854775807) : (Lib.decDigits N).length ≤ 21 := by
  have := Lib.itoa_length_le (N : Int) (by omega) (by omega)
  unfold Lib.itoa at this
  rw [if_neg (by omega)] at this
  simpa using this

set_option maxRecDepth 100000 in
set_option maxHeartbeats 2000000 in
theorem digits_nat (N : Nat) : N ≤ 9223372036854775807 → ∀ w : World, Calls Tryz.prog 31 #[.int .i64 (N : Int)] w fun e w' => e = .returned (.string ⟨(Lib.decDigits N).toArray⟩) ∧ Below w.heap.size w w' := by
  induction N using Nat.strongRecOn with
  | _ N ih =>
    intro hN w
    have h0 : ¬ (N : Int) < 0 := by omega
    have h1 : (0 : Int) ≤ (N : Int) := by omega
    have h2 : (N : Int) ≤ 9223372036854775807 := by omega
    have hcv := conv_one (48 + (N : Int) % 10) (by omega) (by omega)
    by_cases h9 : N < 10
    · have i9 : (N : Int) < 10 := by omega
      rw [dec_small N h9]
      clear ih
      go_enter Tryz.func31, Tryz.ntmps31
      go_wp2
      go_ret
      refine ⟨?_, (by repeat (first | with_reducible exact Below.refl _ _ | with_reducible assumption | refine below_drewN ?_ _ | refine Below.drew ?_ | refine Below.alloc ?_ (by first | (simp; done) | (simp; omega) | omega) _ | refine Below.setCell ?_ (by first | (simp; done) | (simp; omega) | omega) _ | refine Below.trans ?_ (Below.mono (by assumption) (by first | (simp; done) | (simp; omega) | omega))))⟩
      first | rfl | (refine congrArg Ending.returned (congrArg Value.string ?_); apply ByteArray.ext; simp)
    · have i9 : ¬ (N : Int) < 10 := by omega
      have HI := Lib.hid (ih (N / 10) (by omega) (by omega))
      rw [show (((N / 10 : Nat)) : Int) = (N : Int) / 10 by omega] at HI
      have hl := dec_len (N / 10) (by omega)
      rw [dec_step N (by omega)]
      generalize Lib.decDigits (N / 10) = D at *
      clear ih
      go_enter Tryz.func31, Tryz.ntmps31
      go_wp2_with fail
      refine (HI.out _).mono ?_
      rintro e w1 ⟨rfl, hb1⟩
      have hz := hb1.size
      go_wp2
      go_ret
      refine ⟨?_, (by repeat (first | with_reducible exact Below.refl _ _ | with_reducible assumption | refine below_drewN ?_ _ | refine Below.drew ?_ | refine Below.alloc ?_ (by first | (simp; done) | (simp; omega) | omega) _ | refine Below.setCell ?_ (by first | (simp; done) | (simp; omega) | omega) _ | refine Below.trans ?_ (Below.mono (by assumption) (by first | (simp; done) | (simp; omega) | omega))))⟩
      first | rfl | (refine congrArg Ending.returned (congrArg Value.string ?_); apply ByteArray.ext; simp)

set_option maxRecDepth 100000 in
set_option maxHeartbeats 2000000 in
theorem digits_any (n : Int) (h0 : -9223372036854775807 ≤ n) (h1 : n ≤ 9223372036854775807) (w : World) :
    Calls Tryz.prog 31 #[.int .i64 n] w fun e w' => e = .returned (.string ⟨(Lib.itoa n).toArray⟩) ∧ Below w.heap.size w w' := by
  unfold Lib.itoa
  by_cases hn : n < 0
  · rw [if_pos hn]
    have HI := Lib.hid (digits_nat n.natAbs (by omega))
    rw [show ((n.natAbs : Nat) : Int) = -n by omega] at HI
    have hl := dec_len n.natAbs (by omega)
    generalize Lib.decDigits n.natAbs = D at *
    go_enter Tryz.func31, Tryz.ntmps31
    go_wp2_with fail
    refine (HI.out _).mono ?_
    rintro e w1 ⟨rfl, hb1⟩
    have hz := hb1.size
    go_wp2
    go_ret
    refine ⟨?_, (by repeat (first | with_reducible exact Below.refl _ _ | with_reducible assumption | refine below_drewN ?_ _ | refine Below.drew ?_ | refine Below.alloc ?_ (by first | (simp; done) | (simp; omega) | omega) _ | refine Below.setCell ?_ (by first | (simp; done) | (simp; omega) | omega) _ | refine Below.trans ?_ (Below.mono (by assumption) (by first | (simp; done) | (simp; omega) | omega))))⟩
    first | rfl | (refine congrArg Ending.returned (congrArg Value.string ?_); apply ByteArray.ext; simp)
  · rw [if_neg hn]
    have := digits_nat n.toNat (by omega) w
    rw [show ((n.toNat : Nat) : Int) = n by omega] at this
    exact this
end Go.Proofs.YtemacokojdeimaaGreatDoor
