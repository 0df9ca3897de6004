/- The law ChainSharp, walked. -/
import Derived.Test.YtpddjofmiakpbaaZLpa
import Derived.Test.YtpddjofmiakpbaaZLpb
import Derived.Test.YtpddjofmiakpbaaZLpc
set_option linter.unusedSimpArgs false
set_option linter.unusedVariables false
namespace Go.Proofs.Ytpddjofmiakpbaa
open Go.RowKit

set_option maxRecDepth 100000 in
set_option maxHeartbeats 8000000 in
theorem sharp_err (n : Int) (a b d : Option Addr) (m cap p q c1 c2 : Nat) (u v : Int) (L : List Ch.Lk) (xs ls : List Int) (hm : Hid (L.length = m)) (hp : Hid (xs.length = p)) (hq : Hid (ls.length = q)) (hp9 : p ≤ 70) (hq9 : q ≤ 80) (hsm : Hid ((decide (m ≤ 310) && decide (n ≤ 70)) = true)) (k : Nat) (hE : Ch.EN n L k) (hbe : (Ch.bound n L k u v).2 ≠ 0) (w : World) (hL : Hid (LksAt w a L)) (hx : Hid (IntsAt w b xs)) (hy : Hid (IntsAt w d ls)) :
    Calls Try.prog 7 #[sysV n a m cap, .int .i64 u, .int .i64 v, .slice b p c1, .slice d q c2] w (LawPost w) := by
  have HSm := Lib.hid fun (W : World) => small_any n a m cap true hsm W
  have HSa := Lib.hid fun (W : World) => sanity_any W
  have HBo := Lib.hid fun (W : World) (h : LJ w n a b d m cap L xs ls W) => bound_any n a cap L u v k hE.en W h.l
  have HFi := Lib.hid fun (W : World) (h : LJ w n a b d m cap L xs ls W) => fits_any n a cap L b c1 xs W h.l h.x
  have HCc := Lib.hid fun (W : World) (h : LJ w n a b d m cap L xs ls W) => checkChain_any n a cap L u v d c2 ls W h.l h.y
  have h5 := fun h => Ch.sharp_none hE (u := u) (v := v) h ls
  obtain ⟨B, be, hbo⟩ : ∃ B be, Ch.bound n L k u v = (B, be) := ⟨_, _, rfl⟩
  obtain ⟨fb, fe, hfi⟩ : ∃ fb fe, Ch.fits n L xs = (fb, fe) := ⟨_, _, rfl⟩
  obtain ⟨cs, ce, hcc⟩ : ∃ cs ce, Ch.checkChain n L u v ls = (cs, ce) := ⟨_, _, rfl⟩
  rw [hbo] at hbe h5
  rw [hcc] at h5
  rw [hbo, hm.out] at HBo
  rw [hfi, hm.out, hp.out] at HFi
  rw [hcc, hm.out, hq.out] at HCc
  unfold sysV at *
  have hz1 : (be != 0) = true := by rw [bne_iff_ne]; exact hbe
  replace h5 := Lib.hid h5
  have hn1 : ¬ (70 : Int) < (p : Int) := by omega
  have hn2 : ¬ (80 : Int) < (q : Int) := by omega
  clear hE hbo hfi hcc hbe
  go_enter Try.func7, Try.ntmps7
  go_wp2_with fail
  refine (HSm.out _).mono ?_
  rintro e w1 ⟨rfl, hb⟩
  have hB1 := bstep1 (Below.refl _ _) hb
  have hJ := Lib.hid (LJ.mk (w := w) (n := n) (a := a) (m := m) (cap := cap) (W := w1) (kept1 (by simp [go_sem]) hb) (kept1 (by simp [go_sem]) hb) (hL.out.below hB1) (hx.out.below hB1) (hy.out.below hB1) hB1)
  clear hb hB1 HSm hsm hL hx hy
  have k0 := hJ.out.c0
  have k1 := hJ.out.c1
  go_wp2_with fail
  refine (HBo.out _ hJ.out).mono ?_
  rintro e w2 ⟨rfl, hb⟩
  have hJ2 := Lib.hid (hJ.out.below hb)
  clear hb hJ k0 k1 HBo
  have k0 := hJ2.out.c0
  have k1 := hJ2.out.c1
  go_wp2_with fail
  refine (HFi.out _ hJ2.out).mono ?_
  rintro e w3 ⟨rfl, hb⟩
  have hJ3 := Lib.hid (hJ2.out.below hb)
  clear hb hJ2 k0 k1 HFi
  have k0 := hJ3.out.c0
  have k1 := hJ3.out.c1
  go_wp2_with fail
  refine (HCc.out _ hJ3.out).mono ?_
  rintro e w4 ⟨rfl, hb⟩
  have hJ4 := Lib.hid (hJ3.out.below hb)
  clear hb hJ3 k0 k1 HCc
  by_cases h : be = 5
  · subst h
    have hz2 : (ce == 0) = false := by rw [beq_eq_false_iff_ne]; exact h5.out rfl
    clear h5
    go_wp2_with fail
    refine (HSa.out _).mono ?_
    rintro e w99 ⟨rfl, hb⟩
    have hB := hJ4.out.b.trans (hb.mono hJ4.out.b.size)
    clear hb hJ4
    go_wp2
    go_ret
    exact ⟨rfl, hB⟩
  · have hz2 : (be == 5) = false := by rw [beq_eq_false_iff_ne]; exact h
    clear h5 h
    go_wp2_with fail
    refine (HSa.out _).mono ?_
    rintro e w99 ⟨rfl, hb⟩
    have hB := hJ4.out.b.trans (hb.mono hJ4.out.b.size)
    clear hb hJ4
    go_wp2
    go_ret
    exact ⟨rfl, hB⟩
set_option maxRecDepth 100000 in
set_option maxHeartbeats 8000000 in
theorem sharp_other (n : Int) (a b d : Option Addr) (m cap p q c1 c2 : Nat) (u v : Int) (h : ¬ ((decide (m ≤ 310) && decide (n ≤ 70)) = true ∧ p ≤ 70 ∧ q ≤ 80)) (w : World) :
    Calls Try.prog 7 #[sysV n a m cap, .int .i64 u, .int .i64 v, .slice b p c1, .slice d q c2] w (LawPost w) := by
  have HSa := Lib.hid fun (W : World) => sanity_any W
  obtain ⟨sm, hsm⟩ : ∃ sm, (decide (m ≤ 310) && decide (n ≤ 70)) = sm := ⟨_, rfl⟩
  have HSm := Lib.hid fun (W : World) => small_any n a m cap sm (Lib.hid hsm) W
  rw [hsm] at h
  replace h := Lib.hid h
  clear hsm
  unfold sysV at *
  cases sm
  · go_enter Try.func7, Try.ntmps7
    go_wp2_with fail
    refine (HSm.out _).mono ?_
    rintro e w1 ⟨rfl, hb⟩
    have hB1 := bstep1 (Below.refl _ _) hb
    clear hb HSm
    go_wp2_with fail
    refine (HSa.out _).mono ?_
    rintro e w4 ⟨rfl, hb⟩
    have hB := hB1.trans (hb.mono hB1.size)
    clear hb hB1
    go_wp2
    go_ret
    exact ⟨rfl, hB⟩
  · by_cases h1 : p ≤ 70
    · have hn1 : ¬ (70 : Int) < (p : Int) := by omega
      have hn2 : (80 : Int) < (q : Int) := by
        by_cases e : q ≤ 80
        · exact absurd ⟨rfl, h1, e⟩ h.out
        · omega
      go_enter Try.func7, Try.ntmps7
      go_wp2_with fail
      refine (HSm.out _).mono ?_
      rintro e w1 ⟨rfl, hb⟩
      have hB1 := bstep1 (Below.refl _ _) hb
      clear hb HSm
      go_wp2_with fail
      refine (HSa.out _).mono ?_
      rintro e w4 ⟨rfl, hb⟩
      have hB := hB1.trans (hb.mono hB1.size)
      clear hb hB1
      go_wp2
      go_ret
      exact ⟨rfl, hB⟩
    · have hn1 : (70 : Int) < (p : Int) := by omega
      go_enter Try.func7, Try.ntmps7
      go_wp2_with fail
      refine (HSm.out _).mono ?_
      rintro e w1 ⟨rfl, hb⟩
      have hB1 := bstep1 (Below.refl _ _) hb
      clear hb HSm
      go_wp2_with fail
      refine (HSa.out _).mono ?_
      rintro e w4 ⟨rfl, hb⟩
      have hB := hB1.trans (hb.mono hB1.size)
      clear hb hB1
      go_wp2
      go_ret
      exact ⟨rfl, hB⟩
/-- the law, whatever the lists -/
theorem chainSharp_true (w : World) (n : Int) (a : Option Addr) (m cap : Nat) (_ : I64 n) (_ : a = none → cap = 0) (_ : m ≤ maxLen) (L : List Ch.Lk) (hm : L.length = m) (hL : LksAt w a L) (_ : ∀ i, i < m → I64l (L.getD i Ch.noLk)) (u : Int) (_ : I64 u) (v : Int) (_ : I64 v)
    (b : Option Addr) (p c1 : Nat) (_ : b = none → c1 = 0) (_ : p ≤ maxLen) (xl : List Int) (hp : xl.length = p) (hx : IntsAt w b xl) (_ : ∀ i, i < p → I64 (xl.getD i 0)) (d : Option Addr) (q c2 : Nat) (_ : d = none → c2 = 0) (_ : q ≤ maxLen) (xs : List Int) (hq : xs.length = q) (hy : IntsAt w d xs) (_ : ∀ i, i < q → I64 (xs.getD i 0)) :
    Calls Try.prog 7 #[sysV n a m cap, .int .i64 u, .int .i64 v, .slice b p c1, .slice d q c2] w (LawPost w) := by
  by_cases h : (decide (m ≤ 310) && decide (n ≤ 70)) = true ∧ p ≤ 70 ∧ q ≤ 80
  · obtain ⟨h1, h2, h3⟩ := h
    obtain ⟨K, hK⟩ := Ch.en_ex n L
    have hE := hK K (Nat.le_refl _)
    by_cases hbe : (Ch.bound n L K u v).2 = 0
    · obtain ⟨fb, fe, hfi⟩ : ∃ fb fe, Ch.fits n L xl = (fb, fe) := ⟨_, _, rfl⟩
      by_cases hfe : fe = 0
      · subst hfe
        cases fb
        · exact sharp_b n a b d m cap p q c1 c2 u v L xl xs (Lib.hid hm) (Lib.hid hp) (Lib.hid hq) h2 h3 (Lib.hid h1) K hE hbe _ _ hfi rfl rfl w (Lib.hid hL) (Lib.hid hx) (Lib.hid hy)
        · exact sharp_c n a b d m cap p q c1 c2 u v L xl xs (Lib.hid hm) (Lib.hid hp) (Lib.hid hq) h2 h3 (Lib.hid h1) K hE hbe _ _ hfi rfl rfl w (Lib.hid hL) (Lib.hid hx) (Lib.hid hy)
      · exact sharp_a n a b d m cap p q c1 c2 u v L xl xs (Lib.hid hm) (Lib.hid hp) (Lib.hid hq) h2 h3 (Lib.hid h1) K hE hbe _ _ hfi hfe w (Lib.hid hL) (Lib.hid hx) (Lib.hid hy)
    · exact sharp_err n a b d m cap p q c1 c2 u v L xl xs (Lib.hid hm) (Lib.hid hp) (Lib.hid hq) h2 h3 (Lib.hid h1) K hE hbe w (Lib.hid hL) (Lib.hid hx) (Lib.hid hy)
  · exact sharp_other n a b d m cap p q c1 c2 u v h w
end Go.Proofs.Ytpddjofmiakpbaa
