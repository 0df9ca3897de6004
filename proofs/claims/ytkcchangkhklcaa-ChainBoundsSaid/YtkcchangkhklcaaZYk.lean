/- Contracts of layer 2's laws: asked. -/
import Derived.Test.YtkcchangkhklcaaZQt
import Derived.Test.YtkcchangkhklcaaZRc
import Derived.Test.YtkcchangkhklcaaZRn
import Derived.Test.YtkcchangkhklcaaZYs
set_option linter.unusedSimpArgs false
set_option linter.unusedVariables false
namespace Go.Proofs.Ytkcchangkhklcaa
open Go.RowKit

theorem opn_bad {n : Int} {L : List Ch.Lk} {l : List Int} {k : Nat} (h : (Ch.check n L).1 ≠ 0) : Ch.opn n L l k = (Ch.check n L).1 := by
  unfold Ch.opn Ch.openE; rw [if_pos h]
theorem opn_two {n : Int} {L : List Ch.Lk} {u v : Int} {k : Nat} (h : (Ch.check n L).1 = 0) : Ch.opn n L [u, v] k = if Ch.isIx u n = true ∧ Ch.isIx v n = true then if Ch.cons n.toNat L [] k = true then 0 else 9 else 1 := by
  unfold Ch.opn Ch.openE
  rw [if_neg (by omega)]
  simp
set_option maxRecDepth 100000 in
set_option maxHeartbeats 4000000 in
theorem asked_any (n : Int) (a : Option Addr) (m cap : Nat) (L : List Ch.Lk) (hm : Hid (L.length = m)) (u v : Int) (k : Nat) (hE : Ch.EN n L k) (w : World) (hL : Hid (LksAt w a L)) :
    Calls Try.prog 21 #[sysV n a m cap, .int .i64 u, .int .i64 v] w fun e w' => e = .returned (.int .i64 (Ch.opn n L [u, v] k)) ∧ Below w.heap.size w w' := by
  have HEr := Lib.hid fun (W : World) (h : SB w n a m cap L W) => rerror_any n a cap L W h.l
  rw [hm.out] at HEr
  by_cases hc : (Ch.check n L).1 = 0
  · have ho := opn_two (u := u) (v := v) (k := k) hc
    have HNd := Lib.hid fun (W : World) (y : Int) (r : Bool) (hr : Ch.isIx y n = r) => nodeI_any n a m cap y r (Lib.hid hr) W
    have HTi := Lib.hid fun (W : World) (h : SB w n a m cap L W) => rtight_any n a m cap L hm hc W (Lib.hid h.l)
    have hs := Lib.hid (hE.sol hc)
    rw [hc] at HEr
    unfold sysV at *
    cases hu : Ch.isIx u n
    · rw [hu, if_neg (by simp)] at ho
      rw [ho]
      have HNu := Lib.hid fun (W : World) => HNd.out W u _ hu
      clear HNd HTi hs hE ho hu
      go_enter Try.func21, Try.ntmps21
      go_wp2_with fail
      refine (HEr.out _ ⟨by simp [go_sem], by simp [go_sem], hL.out.below (below_alloc (Below.refl _ _) _), below_alloc (Below.refl _ _) _⟩).mono ?_
      rintro e w1 ⟨rfl, hb⟩
      have hB := bstep1 (Below.refl _ _) hb
      have k0 : w1.cell? ⟨w.heap.size, 0, none⟩ = some (.int .i64 n) := kept1 (by simp [go_sem]) hb
      have k1 : w1.cell? ⟨w.heap.size, 1, none⟩ = some (.slice a m cap) := kept1 (by simp [go_sem]) hb
      clear hb HEr
      go_wp2_with fail
      refine (HNu.out _).mono ?_
      rintro e w2 ⟨rfl, hb⟩
      have hB2 := hB.trans (hb.mono hB.size)
      clear hb k0 k1 hB HNu
      go_wp2
      go_ret
      exact ⟨rfl, hB2⟩
    · cases hv : Ch.isIx v n
      · rw [hu, hv, if_neg (by simp)] at ho
        rw [ho]
        have HNu := Lib.hid fun (W : World) => HNd.out W u _ hu
        have HNv := Lib.hid fun (W : World) => HNd.out W v _ hv
        clear HNd HTi hs hE ho hu hv
        go_enter Try.func21, Try.ntmps21
        go_wp2_with fail
        refine (HEr.out _ ⟨by simp [go_sem], by simp [go_sem], hL.out.below (below_alloc (Below.refl _ _) _), below_alloc (Below.refl _ _) _⟩).mono ?_
        rintro e w1 ⟨rfl, hb⟩
        have hB := bstep1 (Below.refl _ _) hb
        have k0 : w1.cell? ⟨w.heap.size, 0, none⟩ = some (.int .i64 n) := kept1 (by simp [go_sem]) hb
        have k1 : w1.cell? ⟨w.heap.size, 1, none⟩ = some (.slice a m cap) := kept1 (by simp [go_sem]) hb
        clear hb HEr
        go_wp2_with fail
        refine (HNu.out _).mono ?_
        rintro e w2 ⟨rfl, hb⟩
        have hB2 := hB.trans (hb.mono hB.size)
        have q0 := kept1 k0 hb
        have q1 := kept1 k1 hb
        clear hb k0 k1 hB HNu
        go_wp2_with fail
        refine (HNv.out _).mono ?_
        rintro e w3 ⟨rfl, hb⟩
        have hB3 := hB2.trans (hb.mono hB2.size)
        clear hb q0 q1 hB2 HNv
        go_wp2
        go_ret
        exact ⟨rfl, hB3⟩
      · rw [hu, hv, if_pos (by simp)] at ho
        rw [ho]
        obtain ⟨r, hr⟩ : ∃ r : Int, (if Ch.cons n.toNat L [] k = true then (0 : Int) else 9) = r := ⟨_, rfl⟩
        rw [hr]
        replace hr := Lib.hid hr
        have HNu := Lib.hid fun (W : World) => HNd.out W u _ hu
        have HNv := Lib.hid fun (W : World) => HNd.out W v _ hv
        clear HNd hE ho hu hv
        go_enter Try.func21, Try.ntmps21
        go_wp2_with fail
        refine (HEr.out _ ⟨by simp [go_sem], by simp [go_sem], hL.out.below (below_alloc (Below.refl _ _) _), below_alloc (Below.refl _ _) _⟩).mono ?_
        rintro e w1 ⟨rfl, hb⟩
        have hB := bstep1 (Below.refl _ _) hb
        have hJ := Lib.hid (SB.mk (w := w) (n := n) (a := a) (m := m) (cap := cap) (W := w1) (kept1 (by simp [go_sem]) hb) (kept1 (by simp [go_sem]) hb) (hL.out.below hB) hB)
        clear hb HEr hB
        have k0 := hJ.out.c0
        have k1 := hJ.out.c1
        go_wp2_with fail
        refine (HNu.out _).mono ?_
        rintro e w2 ⟨rfl, hb⟩
        have hJ2 := Lib.hid (hJ.out.below hb)
        clear hb hJ k0 k1 HNu
        have k0 := hJ2.out.c0
        have k1 := hJ2.out.c1
        go_wp2_with fail
        refine (HNv.out _).mono ?_
        rintro e w3 ⟨rfl, hb⟩
        have hJ3 := Lib.hid (hJ2.out.below hb)
        clear hb hJ2 k0 k1 HNv
        have k0 := hJ3.out.c0
        have k1 := hJ3.out.c1
        go_wp2_with fail
        refine (HTi.out _ hJ3.out).mono ?_
        rintro e w4 ⟨hb, h⟩
        have hB4 := hJ3.out.b.trans (hb.mono hJ3.out.b.size)
        clear hb hJ3 k0 k1 HTi
        rcases h with ⟨hno, rfl⟩ | ⟨hyes, ob, tc, R, rfl, _⟩
        · obtain rfl : r = 9 := by rw [← hr.out, if_neg (fun h => hno (hs.out.1 h))]
          clear hno hs hr
          go_wp2
          go_ret
          exact ⟨rfl, hB4⟩
        · obtain rfl : r = 0 := by rw [← hr.out, if_pos (hs.out.2 hyes)]
          clear hyes hs hr
          go_wp2
          go_ret
          exact ⟨rfl, hB4⟩
  · rw [opn_bad hc]
    obtain ⟨ec, hec⟩ : ∃ ec, (Ch.check n L).1 = ec := ⟨_, rfl⟩
    rw [hec] at HEr hc ⊢
    have g1 : (ec != 0) = true := by rw [bne_iff_ne]; exact hc
    unfold sysV at *
    clear hec hE
    go_enter Try.func21, Try.ntmps21
    go_wp2_with fail
    refine (HEr.out _ ⟨by simp [go_sem], by simp [go_sem], hL.out.below (below_alloc (Below.refl _ _) _), below_alloc (Below.refl _ _) _⟩).mono ?_
    rintro e w1 ⟨rfl, hb⟩
    have hB := bstep1 (Below.refl _ _) hb
    clear hb HEr
    go_wp2
    go_ret
    exact ⟨rfl, hB⟩
end Go.Proofs.Ytkcchangkhklcaa
