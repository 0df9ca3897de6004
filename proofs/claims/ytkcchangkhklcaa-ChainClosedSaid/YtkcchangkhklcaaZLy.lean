/- The law ChainClosed. -/
import Derived.Test.YtkcchangkhklcaaZLya
import Derived.Test.YtkcchangkhklcaaZLyb
import Derived.Test.YtkcchangkhklcaaZLyc
import Derived.Test.YtkcchangkhklcaaZLyd
set_option linter.unusedSimpArgs false
set_option linter.unusedVariables false
namespace Go.Proofs.Ytkcchangkhklcaa
open Go.RowKit

set_option linter.unusedSimpArgs false in
set_option maxRecDepth 100000 in
set_option maxHeartbeats 16000000 in
theorem closed_other (n : Int) (a b : Option Addr) (m cap p c1 : Nat) (u v z : Int) (hsm : Hid ((decide (m ≤ 310) && decide (n ≤ 70)) = false)) (w : World) :
    Calls Try.prog 7 #[sysV n a m cap, .int .i64 u, .int .i64 v, .int .i64 z, .slice b p c1] w (LawPost w) := by
  have HSa := Lib.hid fun (W : World) => sanity_any W
  have HSm := Lib.hid fun (W : World) => small_any n a m cap false hsm W
  clear hsm
  unfold sysV at *
  go_enter Try.func7, Try.ntmps7
  go_wp2_with fail
  refine (HSm.out _).mono ?_
  rintro e w1 ⟨rfl, hb⟩
  have hB1 := bstep1 (Below.refl _ _) hb
  clear hb HSm
  go_wp2_with fail
  refine (HSa.out _).mono ?_
  rintro e w99 ⟨rfl, hb⟩
  have hB := (hB1).trans (hb.mono (hB1).size)
  clear hb
  go_wp2
  go_ret
  exact ⟨rfl, hB⟩
set_option linter.unusedSimpArgs false in
set_option maxRecDepth 100000 in
set_option maxHeartbeats 16000000 in
theorem closed_long (n : Int) (a b : Option Addr) (m cap p c1 : Nat) (u v z : Int) (hp9 : ¬ p ≤ 70) (hsm : Hid ((decide (m ≤ 310) && decide (n ≤ 70)) = true)) (w : World) :
    Calls Try.prog 7 #[sysV n a m cap, .int .i64 u, .int .i64 v, .int .i64 z, .slice b p c1] w (LawPost w) := by
  have hn1 : (70 : Int) < (p : Int) := by omega
  have HSa := Lib.hid fun (W : World) => sanity_any W
  have HSm := Lib.hid fun (W : World) => small_any n a m cap true hsm W
  clear hsm
  unfold sysV at *
  go_enter Try.func7, Try.ntmps7
  go_wp2_with fail
  refine (HSm.out _).mono ?_
  rintro e w1 ⟨rfl, hb⟩
  have hB1 := bstep1 (Below.refl _ _) hb
  clear hb HSm
  go_wp2_with fail
  refine (HSa.out _).mono ?_
  rintro e w99 ⟨rfl, hb⟩
  have hB := (hB1).trans (hb.mono (hB1).size)
  clear hb
  go_wp2
  go_ret
  exact ⟨rfl, hB⟩
set_option linter.unusedSimpArgs false in
set_option maxRecDepth 100000 in
set_option maxHeartbeats 16000000 in
theorem closed_err (n : Int) (a b : Option Addr) (m cap p c1 : Nat) (u v z : Int) (L : List Ch.Lk) (xs : List Int) (hm : Hid (L.length = m)) (hp : Hid (xs.length = p)) (hp9 : p ≤ 70) (hsm : Hid ((decide (m ≤ 310) && decide (n ≤ 70)) = true)) (k : Nat) (hT : Ch.ET n L k) (ho : Ch.opn n L [] k ≠ 0) (w : World) (hL : Hid (LksAt w a L)) (hx : Hid (IntsAt w b xs)) :
    Calls Try.prog 7 #[sysV n a m cap, .int .i64 u, .int .i64 v, .int .i64 z, .slice b p c1] w (LawPost w) := by
  have HSm := Lib.hid fun (W : World) => small_any n a m cap true hsm W
  have HSa := Lib.hid fun (W : World) => sanity_any W
  have HTi := Lib.hid fun (W : World) (h : LJ w n a b b m cap L xs xs W) => tight_any n a cap L k hT.en.en W h.l
  rw [hm.out] at HTi
  obtain ⟨e1, he1⟩ : ∃ e1, Ch.opn n L [] k = e1 := ⟨_, rfl⟩
  rw [he1] at HTi ho
  have g1 : (e1 != 0) = true := by rw [bne_iff_ne]; exact ho
  replace ho := Lib.hid ho
  unfold sysV at *
  clear hT he1
  have hn1 : ¬ (70 : Int) < (p : Int) := by omega
  go_enter Try.func7, Try.ntmps7
  go_wp2_with fail
  refine (HSm.out _).mono ?_
  rintro e w1 ⟨rfl, hb⟩
  have hB1 := bstep1 (Below.refl _ _) hb
  have hJ := Lib.hid (LJ.mk (w := w) (n := n) (a := a) (m := m) (cap := cap) (W := w1) (kept1 (by simp [go_sem]) hb) (kept1 (by simp [go_sem]) hb) (hL.out.below hB1) (hx.out.below hB1) (hx.out.below hB1) hB1)
  clear hb hB1 HSm hsm hL hx
  have k0 := hJ.out.c0
  have k1 := hJ.out.c1
  go_wp2_with fail
  refine (HTi.out _ hJ.out).mono ?_
  rintro e w2 ⟨hb, h⟩
  obtain ⟨_, rfl⟩ := h.resolve_right (fun h => ho.out h.1)
  have hJ2 := Lib.hid (hJ.out.below hb)
  clear hb hJ k0 k1 HTi h
  have k0 := hJ2.out.c0
  have k1 := hJ2.out.c1
  go_wp2_with fail
  refine (HSa.out _).mono ?_
  rintro e w99 ⟨rfl, hb⟩
  have hB := (hJ2.out.b).trans (hb.mono (hJ2.out.b).size)
  clear hb k0 k1 hJ2
  go_wp2
  go_ret
  exact ⟨rfl, hB⟩
/-- the law -/
theorem chainClosed_true (w : World) (n : Int) (a : Option Addr) (m cap : Nat) (_ : I64 n) (_ : a = none → cap = 0) (_ : m ≤ maxLen) (L : List Ch.Lk) (hm : L.length = m) (hL : LksAt w a L) (_ : ∀ i, i < m → I64l (L.getD i Ch.noLk)) (u : Int) (_ : I64 u) (v : Int) (_ : I64 v) (z : Int) (_ : I64 z) (b : Option Addr) (p c1 : Nat) (_ : b = none → c1 = 0) (_ : p ≤ maxLen) (xs : List Int) (hp : xs.length = p) (hx : IntsAt w b xs) (_ : ∀ i, i < p → I64 (xs.getD i 0)) :
    Calls Try.prog 7 #[sysV n a m cap, .int .i64 u, .int .i64 v, .int .i64 z, .slice b p c1] w (LawPost w) := by
  obtain ⟨K, hT⟩ := Ch.et_ex n L
  cases h : (decide (m ≤ 310) && decide (n ≤ 70))
  · exact closed_other n a b m cap p c1 u v z (Lib.hid h) w
  · by_cases h7 : p ≤ 70
    · by_cases ho : Ch.opn n L [] K = 0
      · by_cases hg : (Ch.greatW n L K).2 = 0
        · by_cases hh : (Ch.leastW n L K).2 = 0
          · exact closed_a n a b m cap p c1 u v z L xs (Lib.hid hm) (Lib.hid hp) h7 (Lib.hid h) K hT ho hg hh w (Lib.hid hL) (Lib.hid hx)
          · exact closed_b n a b m cap p c1 u v z L xs (Lib.hid hm) (Lib.hid hp) h7 (Lib.hid h) K hT ho hg hh w (Lib.hid hL) (Lib.hid hx)
        · by_cases hh : (Ch.leastW n L K).2 = 0
          · exact closed_c n a b m cap p c1 u v z L xs (Lib.hid hm) (Lib.hid hp) h7 (Lib.hid h) K hT ho hg hh w (Lib.hid hL) (Lib.hid hx)
          · exact closed_d n a b m cap p c1 u v z L xs (Lib.hid hm) (Lib.hid hp) h7 (Lib.hid h) K hT ho hg hh w (Lib.hid hL) (Lib.hid hx)
      · exact closed_err n a b m cap p c1 u v z L xs (Lib.hid hm) (Lib.hid hp) h7 (Lib.hid h) K hT ho w (Lib.hid hL) (Lib.hid hx)
    · exact closed_long n a b m cap p c1 u v z h7 (Lib.hid h) w
end Go.Proofs.Ytkcchangkhklcaa
