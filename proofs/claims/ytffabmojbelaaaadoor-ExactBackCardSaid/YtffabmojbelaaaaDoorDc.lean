/- The contracts of the specification's decimal and Print. -/
import Derived.Test.YtffabmojbelaaaaDoorPr
import Derived.Test.YtffabmojbelaaaaDoorQ
import Derived.Test.YtffabmojbelaaaaDoorKq
import Derived.Laws.IdiomStrings
namespace Go.Proofs.YtffabmojbelaaaaDoor
open Go.RowKit

theorem conv_one (x : Int) (h1 : 48 ≤ x) (h2 : x ≤ 57) (W : World) :
    Sem.run Tryd.prog (convert 128 9 (.slice (some ⟨W.heap.size, 0, none⟩) 1 1)) (W.alloc (Obj.cells #[.int .u8 x] 5)) = .ok (.string ⟨#[UInt8.ofNat x.toNat]⟩) (W.alloc (Obj.cells #[.int .u8 x] 5)) := by
  refine run_convert_bytes_back _ _ _ 5 ⟨W.heap.size, 0, none⟩ 1 [UInt8.ofNat x.toNat] Tryd.underlying128 Tryd.underlying5 Tryd.underlying9 ?_
  intro j hj
  obtain rfl : j = 0 := by simp at hj; omega
  have e : ((UInt8.ofNat x.toNat).toNat : Int) = x := by rw [UInt8.toNat_ofNat']; omega
  simp only [List.getElem_cons_zero]
  rw [e]
  simp [go_sem, Addr.add]

theorem dec_step (N : Nat) (h : 10 ≤ N) : Lib.decDigits N = Lib.decDigits (N / 10) ++ [UInt8.ofNat (48 + N % 10)] := by
  rw [Lib.decDigits, dif_neg (by omega)]
theorem dec_small (N : Nat) (h : N < 10) : Lib.decDigits N = [UInt8.ofNat (48 + N % 10)] := by
  rw [Lib.decDigits, dif_pos h, Nat.mod_eq_of_lt h]

set_option maxRecDepth 100000 in
set_option maxHeartbeats 2000000 in
theorem rdecimal (n : Nat) (hn : n ≤ 2147483648) (w : World) :
    Calls Tryd.prog 111 #[.int .i64 (n : Int)] w fun e w' => e = .returned (.string ⟨(Lib.decDigits n).toArray⟩) ∧ Below w.heap.size w w' := by
  have h0 : (0 : Int) ≤ (n : Int) := by omega
  have h1 : (n : Int) ≤ 2147483648 := by omega
  have hcv := conv_one (48 + (n : Int) % 10) (by omega) (by omega)
  go_enter Tryd.func111, Tryd.ntmps111
  go_wp2
  have hlen := Lib.hid (show (Lib.decDigits n).length ≤ 10 by rw [Rt.decDigits_len]; exact Rt.nDigits_le10 (by omega))
  clear hcv
  go_loopw [0, 3] (fun a s wr => ∃ (N : Nat) (suf : List UInt8), a = .int .i64 (N : Int) ∧ N ≤ 2147483648 ∧ s = .string ⟨(UInt8.ofNat (48 + N % 10) :: suf).toArray⟩ ∧ Hid (Lib.decDigits n = Lib.decDigits N ++ suf) ∧ Below w.heap.size w wr) (fun a _ _ => (RowKit.intOf a).toNat)
  case atStart => exact ⟨n, [], rfl, hn, rfl, Lib.hid (by simp), (by repeat (first | with_reducible exact Below.refl _ _ | with_reducible assumption | refine below_drewN ?_ _ | refine Below.drew ?_ | refine Below.alloc ?_ (by first | (simp; done) | (simp; omega) | omega) _ | refine Below.setCell ?_ (by first | (simp; done) | (simp; omega) | omega) _ | refine Below.trans ?_ (Below.mono (by assumption) (by first | (simp; done) | (simp; omega) | omega))))⟩
  case round =>
    obtain ⟨N, suf, rfl, hN, rfl, hd, hb⟩ := hrel
    have g0 : (0 : Int) ≤ (N : Int) := by omega
    have g1 : (N : Int) ≤ 2147483648 := by omega
    by_cases h9 : 9 < N
    · have g9 : (9 : Int) < (N : Int) := by omega
      have hcv := conv_one (48 + (N : Int) / 10 % 10) (by omega) (by omega)
      have hd2 : Hid (Lib.decDigits n = Lib.decDigits (N / 10) ++ (UInt8.ofNat (48 + N % 10) :: suf)) := Lib.hid (by rw [hd.out, dec_step N (by omega), List.append_assoc]; rfl)
      have hsl : suf.length ≤ 10 := by have := hlen.out; rw [hd.out] at this; simp at this; omega
      go_wp2
      go_roundw
      case rel => exact ⟨N / 10, UInt8.ofNat (48 + N % 10) :: suf, by simp, by omega, by congr 1; apply ByteArray.ext; simp, hd2, hb.alloc hb.size _⟩
      case measure => simp [RowKit.intOf]; omega
    · have hs : Hid (Lib.decDigits n = UInt8.ofNat (48 + N % 10) :: suf) := Lib.hid (by rw [hd.out, dec_small N (by omega)]; rfl)
      have g9 : ¬ (9 : Int) < (N : Int) := by omega
      go_wp2
      go_ret
      refine ⟨?_, hb⟩
      rw [hs.out]
      simp

theorem rpr_form (a b : Int) (hb : 1 ≤ b) : Rt.pr a b = (if a < 0 then [45] else []) ++ (Lib.decDigits a.natAbs ++ if b = 1 then [] else 47 :: Lib.decDigits b.toNat) := by
  unfold Rt.pr Lib.itoa
  by_cases hn : a < 0
  · rw [if_pos hn, if_pos hn, if_neg (show ¬ b < 0 by omega)]; simp
  · rw [if_neg hn, if_neg hn, if_neg (show ¬ b < 0 by omega), show a.toNat = a.natAbs by omega]; simp
theorem dec_size (n : Nat) (hn : n ≤ 2147483648) : (Lib.decDigits n).length ≤ 10 := by rw [Rt.decDigits_len]; exact Rt.nDigits_le10 (by omega)

set_option maxRecDepth 100000 in
set_option maxHeartbeats 2000000 in
theorem rprint_n1 (a : Int) (ha : a < 0) (x3 : -2147483647 ≤ a) (_ : a ≤ 2147483647) (D : List UInt8) (lD : D.length ≤ 10) (w : World)
    (HD : Hid (∀ W : World, Calls Tryd.prog 111 #[.int .i64 (a.natAbs : Int)] W fun e w' => e = .returned (.string ⟨D.toArray⟩) ∧ Below W.heap.size W w')) :
    Calls Tryd.prog 71 #[.agg #[.int .i64 a, .int .i64 1]] w fun e w' => e = .returned (.string ⟨(45 :: (D)).toArray⟩) ∧ Below w.heap.size w w' := by
  go_enter Tryd.func71, Tryd.ntmps71
  go_wp2_with (go_at_call 79; refine (rabs_any a (by omega) (by omega) _).mono ?_; rintro e w1 ⟨rfl, hb1⟩; subst hb1)
  refine (HD.out _).mono ?_
  rintro e w2 ⟨rfl, hb2⟩
  have k0 : w2.cell? ⟨w.heap.size, 0, none⟩ = some (.int .i64 a) := kept1 (by simp [go_sem]) hb2
  have k1 : w2.cell? ⟨w.heap.size, 1, none⟩ = some (.int .i64 1) := kept1 (by simp [go_sem]) hb2
  have hv2 : Below w.heap.size w w2 := bstep1 (Below.refl _ _) hb2
  go_wp2
  go_ret
  refine ⟨?_, by assumption⟩
  first | rfl | (refine congrArg Ending.returned (congrArg Value.string ?_); apply ByteArray.ext; simp)

set_option maxRecDepth 100000 in
set_option maxHeartbeats 2000000 in
theorem rprint_n2 (a b : Int) (ha : a < 0) (hb : (b != 1) = true) (_ : 1 ≤ b) (_ : b ≤ 2147483647) (x3 : -2147483647 ≤ a) (_ : a ≤ 2147483647) (D E : List UInt8) (lD : D.length ≤ 10) (lE : E.length ≤ 10) (w : World)
    (HD : Hid (∀ W : World, Calls Tryd.prog 111 #[.int .i64 (a.natAbs : Int)] W fun e w' => e = .returned (.string ⟨D.toArray⟩) ∧ Below W.heap.size W w'))
    (HE : Hid (∀ W : World, Calls Tryd.prog 111 #[.int .i64 b] W fun e w' => e = .returned (.string ⟨E.toArray⟩) ∧ Below W.heap.size W w')) :
    Calls Tryd.prog 71 #[.agg #[.int .i64 a, .int .i64 b]] w fun e w' => e = .returned (.string ⟨(45 :: (D ++ 47 :: E)).toArray⟩) ∧ Below w.heap.size w w' := by
  go_enter Tryd.func71, Tryd.ntmps71
  go_wp2_with (go_at_call 79; refine (rabs_any a (by omega) (by omega) _).mono ?_; rintro e w1 ⟨rfl, hb1⟩; subst hb1)
  refine (HD.out _).mono ?_
  rintro e w2 ⟨rfl, hb2⟩
  have k0 : w2.cell? ⟨w.heap.size, 0, none⟩ = some (.int .i64 a) := kept1 (by simp [go_sem]) hb2
  have k1 : w2.cell? ⟨w.heap.size, 1, none⟩ = some (.int .i64 b) := kept1 (by simp [go_sem]) hb2
  have hv2 : Below w.heap.size w w2 := bstep1 (Below.refl _ _) hb2
  go_wp2_with fail
  refine (HE.out _).mono ?_
  rintro e w3 ⟨rfl, hb3⟩
  have hv3 : Below w.heap.size w w3 := bstep0 hv2 hb3
  go_wp2
  go_ret
  refine ⟨?_, by assumption⟩
  first | rfl | (refine congrArg Ending.returned (congrArg Value.string ?_); apply ByteArray.ext; simp)

set_option maxRecDepth 100000 in
set_option maxHeartbeats 2000000 in
theorem rprint_p1 (a : Int) (ha : ¬ a < 0) (x3 : -2147483647 ≤ a) (_ : a ≤ 2147483647) (D : List UInt8) (_ : D.length ≤ 10) (w : World)
    (HD : Hid (∀ W : World, Calls Tryd.prog 111 #[.int .i64 (a.natAbs : Int)] W fun e w' => e = .returned (.string ⟨D.toArray⟩) ∧ Below W.heap.size W w')) :
    Calls Tryd.prog 71 #[.agg #[.int .i64 a, .int .i64 1]] w fun e w' => e = .returned (.string ⟨((D)).toArray⟩) ∧ Below w.heap.size w w' := by
  go_enter Tryd.func71, Tryd.ntmps71
  go_wp2_with (go_at_call 79; refine (rabs_any a (by omega) (by omega) _).mono ?_; rintro e w1 ⟨rfl, hb1⟩; subst hb1)
  refine (HD.out _).mono ?_
  rintro e w2 ⟨rfl, hb2⟩
  have k0 : w2.cell? ⟨w.heap.size, 0, none⟩ = some (.int .i64 a) := kept1 (by simp [go_sem]) hb2
  have k1 : w2.cell? ⟨w.heap.size, 1, none⟩ = some (.int .i64 1) := kept1 (by simp [go_sem]) hb2
  have hv2 : Below w.heap.size w w2 := bstep1 (Below.refl _ _) hb2
  go_wp2
  go_ret
  refine ⟨?_, by assumption⟩
  first | rfl | (refine congrArg Ending.returned (congrArg Value.string ?_); apply ByteArray.ext; simp)

set_option maxRecDepth 100000 in
set_option maxHeartbeats 2000000 in
theorem rprint_p2 (a b : Int) (ha : ¬ a < 0) (hb : (b != 1) = true) (_ : 1 ≤ b) (_ : b ≤ 2147483647) (x3 : -2147483647 ≤ a) (_ : a ≤ 2147483647) (D E : List UInt8) (lD : D.length ≤ 10) (lE : E.length ≤ 10) (w : World)
    (HD : Hid (∀ W : World, Calls Tryd.prog 111 #[.int .i64 (a.natAbs : Int)] W fun e w' => e = .returned (.string ⟨D.toArray⟩) ∧ Below W.heap.size W w'))
    (HE : Hid (∀ W : World, Calls Tryd.prog 111 #[.int .i64 b] W fun e w' => e = .returned (.string ⟨E.toArray⟩) ∧ Below W.heap.size W w')) :
    Calls Tryd.prog 71 #[.agg #[.int .i64 a, .int .i64 b]] w fun e w' => e = .returned (.string ⟨((D ++ 47 :: E)).toArray⟩) ∧ Below w.heap.size w w' := by
  go_enter Tryd.func71, Tryd.ntmps71
  go_wp2_with (go_at_call 79; refine (rabs_any a (by omega) (by omega) _).mono ?_; rintro e w1 ⟨rfl, hb1⟩; subst hb1)
  refine (HD.out _).mono ?_
  rintro e w2 ⟨rfl, hb2⟩
  have k0 : w2.cell? ⟨w.heap.size, 0, none⟩ = some (.int .i64 a) := kept1 (by simp [go_sem]) hb2
  have k1 : w2.cell? ⟨w.heap.size, 1, none⟩ = some (.int .i64 b) := kept1 (by simp [go_sem]) hb2
  have hv2 : Below w.heap.size w w2 := bstep1 (Below.refl _ _) hb2
  go_wp2_with fail
  refine (HE.out _).mono ?_
  rintro e w3 ⟨rfl, hb3⟩
  have hv3 : Below w.heap.size w w3 := bstep0 hv2 hb3
  go_wp2
  go_ret
  refine ⟨?_, by assumption⟩
  first | rfl | (refine congrArg Ending.returned (congrArg Value.string ?_); apply ByteArray.ext; simp)

theorem rprint (a b : Int) (h : Rt.vldP a b) (w : World) :
    Calls Tryd.prog 71 #[.agg #[.int .i64 a, .int .i64 b]] w fun e w' => e = .returned (.string ⟨(Rt.pr a b).toArray⟩) ∧ Below w.heap.size w w' := by
  have ⟨x1, x2, x3, x4, _⟩ := h
  have lD := dec_size a.natAbs (by omega)
  have lE := dec_size b.toNat (by omega)
  have HD := Lib.hid (rdecimal a.natAbs (by omega))
  have HE := Lib.hid (rdecimal b.toNat (by omega))
  rw [show ((b.toNat : Nat) : Int) = b by omega] at HE
  rw [rpr_form a b (by omega)]
  by_cases ha : a < 0
  · by_cases hb : b = 1
    · subst hb
      have t := rprint_n1 a ha x3 x4 _ lD w HD
      simpa [ha] using t
    · have t := rprint_n2 a b ha (by rw [bne_iff_ne]; exact hb) x1 x2 x3 x4 _ _ lD lE w HD HE
      simpa [ha, hb] using t
  · by_cases hb : b = 1
    · subst hb
      have t := rprint_p1 a ha x3 x4 _ lD w HD
      simpa [ha] using t
    · have t := rprint_p2 a b ha (by rw [bne_iff_ne]; exact hb) x1 x2 x3 x4 _ _ lD lE w HD HE
      simpa [ha, hb] using t
end Go.Proofs.YtffabmojbelaaaaDoor
