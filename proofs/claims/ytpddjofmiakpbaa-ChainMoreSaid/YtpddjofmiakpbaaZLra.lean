/- The law ChainMore: the walk where the longer system has no solution. -/
import Derived.Test.YtpddjofmiakpbaaZLrh
set_option linter.unusedSimpArgs false
set_option linter.unusedVariables false
namespace Go.Proofs.Ytpddjofmiakpbaa
open Go.RowKit

set_option maxRecDepth 100000 in
set_option maxHeartbeats 8000000 in
theorem more_a (n : Int) (a : Option Addr) (m cap : Nat) (f t z u v : Int) (L : List Ch.Lk) (hm : Hid (L.length = m)) (hm9 : m ≤ 310) (hsm : Hid ((decide (m ≤ 310) && decide (n ≤ 70)) = true)) (ha : Hid (a = none → cap = 0)) (k k2 : Nat) (hE : Ch.EN n L k) (hE2 : Ch.EN n (L ++ [⟨f, t, z⟩]) k2) (hop : Ch.opn n L [] k = 0) (hwe : Ch.withE n L [⟨f, t, z⟩] = 0) (hco : Ch.cons n.toNat (L ++ [⟨f, t, z⟩]) [] k2 = false) (w : World) (hL : Hid (LksAt w a L)) :
    Calls Try.prog 9 #[sysV n a m cap, .agg #[.int .i64 f, .int .i64 t, .int .i64 z], .int .i64 u, .int .i64 v] w (LawPost w) := by
  have HSm := Lib.hid fun (W : World) => small_any n a m cap true hsm W
  have HSa := Lib.hid fun (W : World) => sanity_any W
  have HTi := Lib.hid fun (W : World) (h : MO w n a m cap L f t z W) => tight_any n a cap L k hE.en W h.s.l
  have HWi := Lib.hid fun (W : World) (x : Option Addr) (cx : Nat) (hx : x = none → cx = 0) (h : MO w n a m cap L f t z W) (h2 : LksAt W x [⟨f, t, z⟩]) => with_any n a x m 1 cap cx L [⟨f, t, z⟩] hm (Lib.hid rfl) ha (Lib.hid hx) (by omega) W (Lib.hid h.s.l) (Lib.hid h2)
  rw [hm.out] at HTi
  obtain ⟨hck, hck2⟩ := Ch.with_one hwe
  obtain ⟨n1, n2, _, hokk⟩ := Ch.check_ok hck
  have hlk := Ch.more_ok hck2
  obtain ⟨f0, f1, t0, t1, _, z0, z1⟩ := Ch.okLk_spec hlk
  simp only at f0 f1 t0 t1 z0 z1
  obtain ⟨_, hsol, hTB⟩ := Ch.tb_of hE hop
  have hop2 := Ch.opn_nil (k := k2) hck2
  rw [hco] at hop2
  have hok' : ∀ j, j < L.length → Ch.okLk n.toNat (L.getD j Ch.noLk) = true := by rw [show ((n.toNat : Nat) : Int) = n by omega]; exact hokk
  have hlk' : Ch.okLk n.toNat ⟨f, t, z⟩ = true := by rw [show ((n.toNat : Nat) : Int) = n by omega]; exact hlk
  have hiff := Ch.more_sol hok' hlk' hTB
  rw [← hE2.sol hck2, hco] at hiff
  simp only at hiff
  rw [hwe] at HWi
  rw [hop] at HTi
  have hM : (L ++ [(⟨f, t, z⟩ : Ch.Lk)]).length = m + 1 := by rw [List.length_append, hm.out]; rfl
  have hM2 : L.length + [(⟨f, t, z⟩ : Ch.Lk)].length = m + 1 := by rw [hm.out]; rfl
  obtain ⟨M, hMM⟩ : ∃ M, L ++ [(⟨f, t, z⟩ : Ch.Lk)] = M := ⟨_, rfl⟩
  rw [hMM] at hM hck2 hE2 hop2 hco
  have HCo := Lib.hid fun (W : World) (xb : Nat) (x : Option Addr) (cx : Nat) (h : SX xb n x (m + 1) cx M W) => consistentS_any n x cx M k2 hE2.en W h.l
  have HT2 := Lib.hid fun (W : World) (xb : Nat) (x : Option Addr) (cx : Nat) (h : SX xb n x (m + 1) cx M W) => tight_any n x cx M k2 hE2.en W h.l
  rw [show Ch.consE n M k2 = (false, 0) by unfold Ch.consE; rw [if_neg (by omega), hco], hM] at HCo
  rw [hop2, hM] at HT2
  have ed : tightB n L k = Ch.tb n L k := rfl
  have ed2 : tightB n M k2 = Ch.tb n M k2 := rfl
  rw [ed] at HTi
  rw [ed2] at HT2
  obtain ⟨D, hD⟩ : ∃ D, Ch.tb n L k = D := ⟨_, rfl⟩
  obtain ⟨E, hEE⟩ : ∃ E, Ch.tb n M k2 = E := ⟨_, rfl⟩
  rw [hD] at HTi hTB hiff
  rw [hEE] at HT2
  obtain ⟨N, rfl⟩ : ∃ N : Nat, n = (N : Int) := ⟨n.toNat, by omega⟩
  obtain ⟨p, rfl⟩ : ∃ i : Nat, f = (i : Int) := ⟨f.toNat, by omega⟩
  obtain ⟨q, rfl⟩ : ∃ i : Nat, t = (i : Int) := ⟨t.toNat, by omega⟩
  simp only [Int.toNat_natCast] at *
  have hp : p < N := by omega
  have hq : q < N := by omega
  obtain ⟨bk1, bk2⟩ := hTB.range hq hp
  obtain ⟨bk, hbk0⟩ : ∃ b, D q p = b := ⟨_, rfl⟩
  rw [hbk0] at hiff bk1 bk2
  have i1 : (p : Int) < (N : Int) := by omega
  have i2 : (q : Int) < (N : Int) := by omega
  have g1 : decide ((p : Int) < 0) = false := decide_eq_false (by omega)
  have g2 : decide ((q : Int) < 0) = false := decide_eq_false (by omega)
  have g3 : decide ((N : Int) ≤ (p : Int)) = false := decide_eq_false (by omega)
  have g4 : decide ((N : Int) ≤ (q : Int)) = false := decide_eq_false (by omega)
  have g5 : decide (N ≤ p) = false := decide_eq_false (by omega)
  have g6 : decide (N ≤ q) = false := decide_eq_false (by omega)
  have g7 : ¬ N ≤ p := by omega
  have g8 : ¬ N ≤ q := by omega
  replace hTB := Lib.hid hTB
  replace hMM := Lib.hid hMM
  replace hM := Lib.hid hM
  replace hM2 := Lib.hid hM2
  replace hbk0 := Lib.hid hbk0
  have hb9 : ¬ (bk = 1152921504606846976 ∨ 0 ≤ z + bk) := fun h => by have := hiff.2 h; cases this
  have hbf : ¬ bk = 1152921504606846976 := fun h => hb9 (.inl h)
  have hbs : ¬ 0 ≤ z + bk := fun h => hb9 (.inr h)
  have hbk3 : bk ≤ 265712378014859264 := bk2.resolve_left hbf
  have hb4 : (bk == 1152921504606846976) = false := by rw [beq_eq_false_iff_ne]; exact hbf
  have hb5 : decide (0 ≤ z + bk) = false := decide_eq_false hbs
  clear hiff hb9 bk2
  unfold sysV at *
  clear hE hE2 hop hwe hop2 hco hck hck2 hokk hok' hlk hlk' hsol ed ed2 hD hEE
  go_enter Try.func9, Try.ntmps9
  go_wp2_with fail
  refine (HSm.out _).mono ?_
  rintro e w1 ⟨rfl, hb⟩
  have hB0 : Below w.heap.size w ((w.alloc (Obj.cells #[.int .i64 (N : Int), .slice a m cap] 24)).alloc (Obj.cells #[.int .i64 (p : Int), .int .i64 (q : Int), .int .i64 z] 63)) := below_alloc (below_alloc (Below.refl _ _) _) _
  have hB1 := hB0.trans (hb.mono hB0.size)
  have hJ := Lib.hid (MO.mk (w := w) (n := (N : Int)) (a := a) (m := m) (cap := cap) (L := L) (f := (p : Int)) (t := (q : Int)) (z := z) (W := w1) (SB.mk (w := w) (n := (N : Int)) (a := a) (m := m) (cap := cap) (W := w1) (kept1 (cell_alloc (by simp [go_sem]) _) hb) (kept1 (cell_alloc (by simp [go_sem]) _) hb) (hL.out.below hB1) hB1) (kept1 (by simp [go_sem]) hb) (kept1 (by simp [go_sem]) hb) (kept1 (by simp [go_sem]) hb))
  clear hb hB0 hB1 HSm hsm hL
  have k0 := hJ.out.s.c0
  have k1 := hJ.out.s.c1
  have l0 := hJ.out.l0
  have l1 := hJ.out.l1
  have l2 := hJ.out.l2
  go_wp2_with fail
  refine (HTi.out _ hJ.out).mono ?_
  rintro e w2 ⟨hb, h⟩
  obtain ⟨_, ob, S0, _, _, rfl, ho, hr⟩ := h.resolve_left (fun h => h.1 rfl)
  have hJ2 := Lib.hid (hJ.out.below hb)
  have hT2 := Lib.hid (TBL.mk (D := D) ho hr)
  clear hb hJ k0 k1 l0 l1 l2 HTi h ho hr
  have k0 := hJ2.out.s.c0
  have k1 := hJ2.out.s.c1
  have l0 := hJ2.out.l0
  have l1 := hJ2.out.l1
  have l2 := hJ2.out.l2
  have hl2 := Lib.hid (lks_one w2 (p : Int) (q : Int) z)
  have hb := (Below.refl w2.heap.size w2).alloc (Nat.le_refl _) (Obj.cells #[.int .i64 (p : Int), .int .i64 (q : Int), .int .i64 z] 63)
  have hJq := Lib.hid (hJ2.out.below hb)
  have hTq := Lib.hid (hT2.out.below hb)
  clear hb
  go_wp2_with fail
  refine (HWi.out _ _ _ (fun h => by cases h) hJq.out hl2.out).mono ?_
  rintro e w3 ⟨kk, vv, rfl, _, hx2, hb⟩
  obtain ⟨hn9, hown⟩ := hx2 rfl
  subst kk
  rw [hMM.out, hM2.out, ← hM.out] at hown
  obtain ⟨px, cx, hv2, hK2⟩ := lks_of_owns hown
  rw [hM.out] at hv2
  subst hv2
  have hA3 : Below w3.heap.size w3 (w3.alloc (Obj.cells #[.int .i64 (N : Int), .slice px (m + 1) cx] 24)) := (Below.refl _ _).alloc (Nat.le_refl _) _
  have hJ3 := Lib.hid ((hJq.out.below hb).below hA3)
  have hT3 := Lib.hid ((hTq.out.below hb).below hA3)
  have hX3 : Hid (SX w3.heap.size (N : Int) px (m + 1) cx M (w3.alloc (Obj.cells #[.int .i64 (N : Int), .slice px (m + 1) cx] 24))) := Lib.hid ⟨by simp [go_sem], by simp [go_sem], hK2.below hA3⟩
  clear hb hJ2 hT2 hJq hTq hl2 k0 k1 l0 l1 l2 HWi hx2 hown hK2 hA3
  have k0 := hJ3.out.s.c0
  have k1 := hJ3.out.s.c1
  have l0 := hJ3.out.l0
  have l1 := hJ3.out.l1
  have l2 := hJ3.out.l2
  have x0 := hX3.out.c0
  have x1 := hX3.out.c1
  have e0 := hT3.out.row hq
  go_upto_region 7 with fail
  generalize w3.alloc (Obj.cells #[.int .i64 (N : Int), .slice px (m + 1) cx] 24) = W3 at *
  generalize w3.heap.size = xb at *
  go_quiet (fail)
  have hb := below_drewN (Below.refl W3.heap.size W3) nq
  have hJ4 := Lib.hid (hJ3.out.below hb)
  have hX4 := Lib.hid (hX3.out.below hb)
  have hT4 := Lib.hid (hT3.out.below hb)
  clear hb hJ3 hX3 hT3 k0 k1 l0 l1 l2 x0 x1 e0
  generalize W3.drewN nq = w4 at *
  have k0 := hJ4.out.s.c0
  have k1 := hJ4.out.s.c1
  have l0 := hJ4.out.l0
  have l1 := hJ4.out.l1
  have l2 := hJ4.out.l2
  have x0 := hX4.out.c0
  have x1 := hX4.out.c1
  go_wp2_with fail
  refine (HCo.out _ _ _ _ hX4.out).mono ?_
  rintro e w5 ⟨rfl, hb⟩
  have hJ5 := Lib.hid (hJ4.out.below hb)
  have hX5 := Lib.hid (hX4.out.below hb)
  have hT5 := Lib.hid (hT4.out.below hb)
  clear hb hJ4 hX4 hT4 k0 k1 l0 l1 l2 x0 x1 HCo
  have k0 := hJ5.out.s.c0
  have k1 := hJ5.out.s.c1
  have l0 := hJ5.out.l0
  have l1 := hJ5.out.l1
  have l2 := hJ5.out.l2
  have x0 := hX5.out.c0
  have x1 := hX5.out.c1
  have e0 := hT5.out.row hq
  have e1 := (by have h := hT5.out.get hq hp; rw [hbk0.out] at h; exact h : w5.cell? ⟨S0 + q, p, none⟩ = some (.int .i64 bk))
  go_upto_region 10 with fail
  go_quiet (fail)
  have hb := below_drewN (Below.refl w5.heap.size w5) nq
  have hJ6 := Lib.hid (hJ5.out.below hb)
  have hX6 := Lib.hid (hX5.out.below hb)
  have hT6 := Lib.hid (hT5.out.below hb)
  clear hb hJ5 hX5 hT5 k0 k1 l0 l1 l2 x0 x1 e0 e1
  generalize w5.drewN nq = w6 at *
  have k0 := hJ6.out.s.c0
  have k1 := hJ6.out.s.c1
  have l0 := hJ6.out.l0
  have l1 := hJ6.out.l1
  have l2 := hJ6.out.l2
  have x0 := hX6.out.c0
  have x1 := hX6.out.c1
  go_wp2_with fail
  refine (HT2.out _ _ _ _ hX6.out).mono ?_
  rintro e w7 ⟨hb, h⟩
  obtain ⟨_, rfl⟩ := h.resolve_right (fun h => by cases h.1)
  have hJ7 := Lib.hid (hJ6.out.below hb)
  have hX7 := Lib.hid (hX6.out.below hb)
  have hT7 := Lib.hid (hT6.out.below hb)
  clear hb hJ6 hX6 hT6 k0 k1 l0 l1 l2 x0 x1 HT2 h
  go_wp2_with fail
  refine (HSa.out _).mono ?_
  rintro e w99 ⟨rfl, hb⟩
  have hB := hJ7.out.s.b.trans (hb.mono hJ7.out.s.b.size)
  clear hb hJ7 hX7 hT7
  go_wp2
  go_ret
  exact ⟨rfl, hB⟩
end Go.Proofs.Ytpddjofmiakpbaa
