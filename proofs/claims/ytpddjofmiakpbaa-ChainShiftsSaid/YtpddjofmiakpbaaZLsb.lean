/- The law ChainShifts: what is out of its range, and the law. -/
import Derived.Test.YtpddjofmiakpbaaZLs
set_option linter.unusedSimpArgs false
set_option linter.unusedVariables false
namespace Go.Proofs.Ytpddjofmiakpbaa
open Go.RowKit

set_option linter.unusedSimpArgs false in
set_option maxRecDepth 100000 in
set_option maxHeartbeats 8000000 in
theorem shifts_other (n : Int) (a b d : Option Addr) (m cap p q c1 c2 : Nat) (u v : Int) (h : ¬ ((decide (m ≤ 310) && decide (n ≤ 70)) = true ∧ 1 ≤ n ∧ n ≤ 60 ∧ n ≤ (p : Int) ∧ p ≤ 70 ∧ q ≤ 70)) (w : World) :
    Calls Try.prog 13 #[sysV n a m cap, .slice b p c1, .int .i64 u, .int .i64 v, .slice d q c2] w (LawPost w) := by
  have HSa := Lib.hid fun (W : World) => sanity_any W
  obtain ⟨sm, hsm⟩ : ∃ sm, (decide (m ≤ 310) && decide (n ≤ 70)) = sm := ⟨_, rfl⟩
  have HSm := Lib.hid fun (W : World) => small_any n a m cap sm (Lib.hid hsm) W
  rw [hsm] at h
  replace h := Lib.hid h
  clear hsm
  unfold sysV at *
  cases sm
  · go_enter Try.func13, Try.ntmps13
    go_wp2_with fail
    refine (HSm.out _).mono ?_
    rintro e w1 ⟨rfl, hb⟩
    have hB1 := bstep1 (Below.refl _ _) hb
    have k0 : w1.cell? ⟨w.heap.size, 0, none⟩ = some (.int .i64 n) := kept1 (by simp [go_sem]) hb
    have k1 : w1.cell? ⟨w.heap.size, 1, none⟩ = some (.slice a m cap) := kept1 (by simp [go_sem]) hb
    clear hb HSm
    go_wp2_with fail
    refine (HSa.out _).mono ?_
    rintro e w99 ⟨rfl, hb⟩
    have hB := (hB1).trans (hb.mono (hB1).size)
    clear hb hB1 k0 k1
    go_wp2
    go_ret
    exact ⟨rfl, hB⟩
  · by_cases h1 : n < 1
    · go_enter Try.func13, Try.ntmps13
      go_wp2_with fail
      refine (HSm.out _).mono ?_
      rintro e w1 ⟨rfl, hb⟩
      have hB1 := bstep1 (Below.refl _ _) hb
      have k0 : w1.cell? ⟨w.heap.size, 0, none⟩ = some (.int .i64 n) := kept1 (by simp [go_sem]) hb
      have k1 : w1.cell? ⟨w.heap.size, 1, none⟩ = some (.slice a m cap) := kept1 (by simp [go_sem]) hb
      clear hb HSm
      go_wp2_with fail
      refine (HSa.out _).mono ?_
      rintro e w99 ⟨rfl, hb⟩
      have hB := (hB1).trans (hb.mono (hB1).size)
      clear hb hB1 k0 k1
      go_wp2
      go_ret
      exact ⟨rfl, hB⟩
    · by_cases h2 : 60 < n
      · go_enter Try.func13, Try.ntmps13
        go_wp2_with fail
        refine (HSm.out _).mono ?_
        rintro e w1 ⟨rfl, hb⟩
        have hB1 := bstep1 (Below.refl _ _) hb
        have k0 : w1.cell? ⟨w.heap.size, 0, none⟩ = some (.int .i64 n) := kept1 (by simp [go_sem]) hb
        have k1 : w1.cell? ⟨w.heap.size, 1, none⟩ = some (.slice a m cap) := kept1 (by simp [go_sem]) hb
        clear hb HSm
        go_wp2_with fail
        refine (HSa.out _).mono ?_
        rintro e w99 ⟨rfl, hb⟩
        have hB := (hB1).trans (hb.mono (hB1).size)
        clear hb hB1 k0 k1
        go_wp2
        go_ret
        exact ⟨rfl, hB⟩
      · by_cases h3 : (p : Int) < n
        · go_enter Try.func13, Try.ntmps13
          go_wp2_with fail
          refine (HSm.out _).mono ?_
          rintro e w1 ⟨rfl, hb⟩
          have hB1 := bstep1 (Below.refl _ _) hb
          have k0 : w1.cell? ⟨w.heap.size, 0, none⟩ = some (.int .i64 n) := kept1 (by simp [go_sem]) hb
          have k1 : w1.cell? ⟨w.heap.size, 1, none⟩ = some (.slice a m cap) := kept1 (by simp [go_sem]) hb
          clear hb HSm
          go_wp2_with fail
          refine (HSa.out _).mono ?_
          rintro e w99 ⟨rfl, hb⟩
          have hB := (hB1).trans (hb.mono (hB1).size)
          clear hb hB1 k0 k1
          go_wp2
          go_ret
          exact ⟨rfl, hB⟩
        · by_cases h4 : 70 < p
          · have h4' : (70 : Int) < (p : Int) := by omega
            go_enter Try.func13, Try.ntmps13
            go_wp2_with fail
            refine (HSm.out _).mono ?_
            rintro e w1 ⟨rfl, hb⟩
            have hB1 := bstep1 (Below.refl _ _) hb
            have k0 : w1.cell? ⟨w.heap.size, 0, none⟩ = some (.int .i64 n) := kept1 (by simp [go_sem]) hb
            have k1 : w1.cell? ⟨w.heap.size, 1, none⟩ = some (.slice a m cap) := kept1 (by simp [go_sem]) hb
            clear hb HSm
            go_wp2_with fail
            refine (HSa.out _).mono ?_
            rintro e w99 ⟨rfl, hb⟩
            have hB := (hB1).trans (hb.mono (hB1).size)
            clear hb hB1 k0 k1
            go_wp2
            go_ret
            exact ⟨rfl, hB⟩
          · have h4' : ¬ (70 : Int) < (p : Int) := by omega
            have h5 : (70 : Int) < (q : Int) := by
              by_cases e : q ≤ 70
              · exact absurd ⟨rfl, by omega, by omega, by omega, by omega, e⟩ h.out
              · omega
            go_enter Try.func13, Try.ntmps13
            go_wp2_with fail
            refine (HSm.out _).mono ?_
            rintro e w1 ⟨rfl, hb⟩
            have hB1 := bstep1 (Below.refl _ _) hb
            have k0 : w1.cell? ⟨w.heap.size, 0, none⟩ = some (.int .i64 n) := kept1 (by simp [go_sem]) hb
            have k1 : w1.cell? ⟨w.heap.size, 1, none⟩ = some (.slice a m cap) := kept1 (by simp [go_sem]) hb
            clear hb HSm
            go_wp2_with fail
            refine (HSa.out _).mono ?_
            rintro e w99 ⟨rfl, hb⟩
            have hB := (hB1).trans (hb.mono (hB1).size)
            clear hb hB1 k0 k1
            go_wp2
            go_ret
            exact ⟨rfl, hB⟩
set_option linter.unusedSimpArgs false in
set_option maxRecDepth 100000 in
set_option maxHeartbeats 8000000 in
theorem shifts_bad (n : Int) (a b d : Option Addr) (m cap p q c1 c2 : Nat) (u v : Int) (L : List Ch.Lk) (hm : Hid (L.length = m)) (hsm : Hid ((decide (m ≤ 310) && decide (n ≤ 70)) = true)) (h1 : 1 ≤ n) (h2 : n ≤ 60) (h3 : n ≤ (p : Int)) (h4 : p ≤ 70) (h5 : q ≤ 70) (hck : (Ch.check n L).1 ≠ 0) (w : World) (hL : Hid (LksAt w a L)) :
    Calls Try.prog 13 #[sysV n a m cap, .slice b p c1, .int .i64 u, .int .i64 v, .slice d q c2] w (LawPost w) := by
  have HSa := Lib.hid fun (W : World) => sanity_any W
  have HSm := Lib.hid fun (W : World) => small_any n a m cap true hsm W
  have HEr := Lib.hid fun (W : World) (h : Below w.heap.size w W) => rerror_any n a cap L W (hL.out.below h)
  rw [hm.out] at HEr
  obtain ⟨ec, hec⟩ : ∃ ec, (Ch.check n L).1 = ec := ⟨_, rfl⟩
  rw [hec] at HEr hck
  have g1 : ¬ n < 1 := by omega
  have g2 : ¬ 60 < n := by omega
  have g3 : ¬ (p : Int) < n := by omega
  have g4 : ¬ (70 : Int) < (p : Int) := by omega
  have g5 : ¬ (70 : Int) < (q : Int) := by omega
  have g6 : (ec != 0) = true := by rw [bne_iff_ne]; exact hck
  unfold sysV at *
  clear hec hsm hck
  go_enter Try.func13, Try.ntmps13
  go_wp2_with fail
  refine (HSm.out _).mono ?_
  rintro e w1 ⟨rfl, hb⟩
  have hB1 := bstep1 (Below.refl _ _) hb
  have k0 : w1.cell? ⟨w.heap.size, 0, none⟩ = some (.int .i64 n) := kept1 (by simp [go_sem]) hb
  have k1 : w1.cell? ⟨w.heap.size, 1, none⟩ = some (.slice a m cap) := kept1 (by simp [go_sem]) hb
  clear hb HSm
  go_wp2_with fail
  refine (HEr.out _ hB1).mono ?_
  rintro e w2 ⟨rfl, hb⟩
  have hB2 := hB1.trans (hb.mono hB1.size)
  clear hb hB1 HEr k0 k1
  go_wp2_with fail
  refine (HSa.out _).mono ?_
  rintro e w99 ⟨rfl, hb⟩
  have hB := (hB2).trans (hb.mono (hB2).size)
  clear hb hB2
  go_wp2
  go_ret
  exact ⟨rfl, hB⟩
/-- the law -/
theorem chainShifts_true (w : World) (n : Int) (a : Option Addr) (m cap : Nat) (_ : I64 n) (_ : a = none → cap = 0) (_ : m ≤ maxLen) (L : List Ch.Lk) (hm : L.length = m) (hL : LksAt w a L) (_ : ∀ i, i < m → I64l (L.getD i Ch.noLk)) (b : Option Addr) (p c1 : Nat) (_ : b = none → c1 = 0) (_ : p ≤ maxLen) (bs : List Int) (hp : bs.length = p) (hx : IntsAt w b bs) (_ : ∀ i, i < p → I64 (bs.getD i 0)) (u : Int) (_ : I64 u) (v : Int) (_ : I64 v) (d : Option Addr) (q c2 : Nat) (_ : d = none → c2 = 0) (_ : q ≤ maxLen) (xs : List Int) (hq : xs.length = q) (hy : IntsAt w d xs) (_ : ∀ i, i < q → I64 (xs.getD i 0)) :
    Calls Try.prog 13 #[sysV n a m cap, .slice b p c1, .int .i64 u, .int .i64 v, .slice d q c2] w (LawPost w) := by
  by_cases h : (decide (m ≤ 310) && decide (n ≤ 70)) = true ∧ 1 ≤ n ∧ n ≤ 60 ∧ n ≤ (p : Int) ∧ p ≤ 70 ∧ q ≤ 70
  · obtain ⟨h0, h1, h2, h3, h4, h5⟩ := h
    by_cases hc : (Ch.check n L).1 = 0
    · exact shifts_walk n a b d m cap p q c1 c2 u v L bs xs (Lib.hid hm) (Lib.hid hp) (Lib.hid hq) h4 h5 h3 (Lib.hid h0) hc w (Lib.hid hL) (Lib.hid hx) (Lib.hid hy)
    · exact shifts_bad n a b d m cap p q c1 c2 u v L (Lib.hid hm) (Lib.hid h0) h1 h2 h3 h4 h5 hc w (Lib.hid hL)
  · exact shifts_other n a b d m cap p q c1 c2 u v h w
end Go.Proofs.Ytpddjofmiakpbaa
