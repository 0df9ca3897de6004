/- The law ChainOrder, walked. -/
import Derived.Test.YtpddjofmiakpbaaZSw
import Derived.Test.YtpddjofmiakpbaaZUj
import Derived.Test.YtpddjofmiakpbaaZ06
import Derived.StillTailTactics
set_option linter.unusedSimpArgs false
set_option linter.unusedVariables false
namespace Go.Proofs.Ytpddjofmiakpbaa
open Go.RowKit

set_option linter.unusedSimpArgs false in
set_option maxRecDepth 100000 in
set_option maxHeartbeats 8000000 in
theorem order_ok (n : Int) (a : Option Addr) (m cap t : Nat) (ht : t ≤ 255) (L : List Ch.Lk) (hm : Hid (L.length = m)) (hm9 : m ≤ 310) (hm0 : 0 < m) (hsm : Hid ((decide (m ≤ 310) && decide (n ≤ 70)) = true)) (k k2 : Nat) (hS : Ch.Same n L (Ch.rot L t L.length) k k2) (ho : Ch.opn n L [] k = 0) (w : World) (hL : Hid (LksAt w a L)) :
    Calls Try.prog 10 #[sysV n a m cap, .int .u8 t] w (LawPost w) := by
  have HSm := Lib.hid fun (W : World) => small_any n a m cap true hsm W
  have HSa := Lib.hid fun (W : World) => sanity_any W
  have hrl : (Ch.rot L t L.length).length = m := by rw [Ch.rot_len]; exact hm.out
  have hnext := fun j => Ch.rot_next (L := L) (t := t) (j := j)
  rw [hm.out] at hrl hnext hS
  have hsame := hS.opn
  obtain ⟨c, d, er, hc1, hc2, hcl⟩ := hS.clash
  have htb : ∀ u v, u < n.toNat → v < n.toNat → Ch.tb n (Ch.rot L t m) k2 u v = Ch.tb n L k u v := fun u v hu hv => (hS.tb ho hu hv).symm
  obtain ⟨n1, n2, _⟩ := Ch.check_ok (Ch.opn_ok ho).1
  have HTi := Lib.hid fun (W : World) (h : SB w n a m cap L W) => tight_any n a cap L k hS.e1.en W h.l
  have HCl := Lib.hid fun (W : World) (h : SB w n a m cap L W) => clashE_any n a cap L k hS.e1.en c er hc1 W h.l
  rw [hm.out] at HTi HCl
  obtain ⟨M, hMM⟩ : ∃ M, Ch.rot L t m = M := ⟨_, rfl⟩
  have hMM2 := hMM
  rw [hMM] at hrl hS hsame hc2 htb
  have HT2 := Lib.hid fun (W : World) (xb : Nat) (x : Option Addr) (cx : Nat) (h : SX xb n x m cx M W) => tight_any n x cx M k2 hS.e2.en W h.l
  have HC2 := Lib.hid fun (W : World) (xb : Nat) (x : Option Addr) (cx : Nat) (h : SX xb n x m cx M W) => clashE_any n x cx M k2 hS.e2.en d er hc2 W h.l
  rw [hrl] at HT2 HC2
  rw [← hsame, ho] at HT2
  rw [ho] at HTi
  have ed : tightB n L k = Ch.tb n L k := rfl
  have ed2 : tightB n M k2 = Ch.tb n M k2 := rfl
  rw [ed] at HTi
  rw [ed2] at HT2
  obtain ⟨D, hD⟩ : ∃ D, Ch.tb n L k = D := ⟨_, rfl⟩
  obtain ⟨E, hE⟩ : ∃ E, Ch.tb n M k2 = E := ⟨_, rfl⟩
  rw [hD, hE] at htb
  rw [hD] at HTi
  rw [hE] at HT2
  obtain ⟨N, rfl⟩ : ∃ N : Nat, n = (N : Int) := ⟨n.toNat, by omega⟩
  simp only [Int.toNat_natCast] at *
  replace htb := Lib.hid htb
  clear hD hE ed ed2
  have heq2 : (er == er) = true := by simp
  replace hcl := Lib.hid hcl
  replace hMM := Lib.hid hMM
  replace hrl := Lib.hid hrl
  replace hnext := Lib.hid hnext
  have hm1 : ((m : Int) == 0) = false := by rw [beq_eq_false_iff_ne]; omega
  have hm2 : ¬ (m : Int) = 0 := by omega
  unfold sysV at *
  clear hS hc1 hc2 hsame hMM2 ho
  go_enter Try.func10, Try.ntmps10
  go_wp2_with fail
  refine (HSm.out _).mono ?_
  rintro e w1 ⟨rfl, hb⟩
  have hB1 := bstep1 (Below.refl _ _) hb
  have hJ := Lib.hid (SB.mk (w := w) (n := (N : Int)) (a := a) (m := m) (cap := cap) (W := w1) (kept1 (by simp [go_sem]) hb) (kept1 (by simp [go_sem]) hb) (hL.out.below hB1) hB1)
  clear hb hB1 HSm hsm hL
  have k0 := hJ.out.c0
  have k1 := hJ.out.c1
  go_wp2
  go_loopw [6, 5] (fun i lv wr => ∃ j : Nat, j ≤ m ∧ i = .int .i64 j ∧ Hid (Below w1.heap.size w1 wr) ∧ Hid (wr.ownsRow w1.heap.size 63 3 lv (Ch.rot L t j).length (lkCells (Ch.rot L t j)))) (fun i _ _ => m - (RowKit.intOf i).toNat)
  case atStart => exact ⟨0, Nat.zero_le _, rfl, Lib.hid (Below.refl _ _), Lib.hid (World.ownsRow_nil _ _ _ _)⟩
  case round =>
    clear k0 k1
    obtain ⟨j, hj, rfl, hB, hown⟩ := hrel
    have k0 := kept1 hJ.out.c0 hB.out
    have k1 := kept1 hJ.out.c1 hB.out
    by_cases hlt : j < m
    · have hi5 : (j : Int) < (m : Int) := by omega
      have hi6 : (0 : Int) ≤ (j : Int) := by omega
      have hrem : ((j : Int) + (t : Int)).tmod (m : Int) = (((j + t) % m : Nat) : Int) := by
        rw [show (j : Int) + (t : Int) = ((j + t : Nat) : Int) by omega]; rfl
      have hrem2 : ((j : Int) + (t : Int)) % (m : Int) = (((j + t) % m : Nat) : Int) := by
        rw [show (j : Int) + (t : Int) = ((j + t : Nat) : Int) by omega]; rfl
      have hm3 : ¬ m = 0 := by omega
      have hm4 : (m == 0) = false := by rw [beq_eq_false_iff_ne]; exact hm3
      have hjt : 0 ≤ (j : Int) + (t : Int) := by omega
      have hq := Nat.mod_lt (j + t) hm0
      have hnx := hnext.out j
      obtain ⟨q, hqe⟩ : ∃ q, (j + t) % m = q := ⟨_, rfl⟩
      rw [hqe] at hrem hrem2 hq hnx
      have hw1 : IntKind.i64.wrap (t : Int) = (t : Int) := wrap_ok (by omega) (by omega)
      have hw2 : IntKind.i64.wrap ((j : Int) + (t : Int)) = (j : Int) + (t : Int) := wrap_ok (by omega) (by omega)
      have hw3 : IntKind.i64.wrap (q : Int) = (q : Int) := wrap_ok (by omega) (by omega)
      have hq5 : (q : Int) < (m : Int) := by omega
      have hq6 : (0 : Int) ≤ (q : Int) := by omega
      obtain ⟨y, rfl, hl3⟩ := hJ.out.l q (by have := hm.out; omega)
      have hyb := block_lt_of_cell hl3.1
      have hwb : w.heap.size < w1.heap.size := block_lt_of_cell hJ.out.c0
      have ⟨g0, g1, g2⟩ := hl3.below hB.out
      obtain ⟨f, tt, mo, hlk⟩ : ∃ f t mo, L.getD q Ch.noLk = ⟨f, t, mo⟩ := ⟨_, _, _, rfl⟩
      rw [hlk] at g0 g1 g2 hnx
      simp only at g0 g1 g2
      have hrl9 := Ch.rot_len L t j
      have S0 : wr.drew.cell? ⟨w.heap.size, 1, none⟩ = some (.slice (some y) m cap) ∧ wr.drew.cell? (y.add (q * 3)) = some (.int .i64 f) ∧ wr.drew.cell? ⟨(y.add (q * 3)).block, (y.add (q * 3)).off + 1, none⟩ = some (.int .i64 tt) ∧ wr.drew.cell? ⟨(y.add (q * 3)).block, (y.add (q * 3)).off + 2, none⟩ = some (.int .i64 mo) := ⟨k1, g0, g1, g2⟩
      clear hl3 hlk hqe g0 g1 g2
      go_upto_region 7 with fail
      clear k0 k1
      refine region_head_held 15 (fun w' => w'.cell? ⟨w.heap.size, 1, none⟩ = some (.slice (some y) m cap) ∧ w'.cell? (y.add (q * 3)) = some (.int .i64 f) ∧ w'.cell? ⟨(y.add (q * 3)).block, (y.add (q * 3)).off + 1, none⟩ = some (.int .i64 tt) ∧ w'.cell? ⟨(y.add (q * 3)).block, (y.add (q * 3)).off + 2, none⟩ = some (.int .i64 mo)) (by kernel_rfl) (by kernel_rfl) S0 (fun hHeld => ?_)
      simp only [List.take_succ_cons, List.take_zero, List.drop_succ_cons, List.drop_zero]
      refine wpAnyH_take (i := 0) (v := ?_) rfl (by kernel_rfl) (by kernel_rfl) (by kernel_rfl) (fun _ _ _ h => h) (Or.inl ⟨by rfl, ?_⟩) (by assumption) ?_
      rotate_left 1
      · (intro w hSw; (try dsimp only at hSw); go_simp; all_goals with_reducible rfl)
      try simp only [Act.put, List.setIfInBounds_toArray, List.set_cons_zero, List.set_cons_succ]
      refine wpAnyH_take (i := 1) (v := ?_) rfl (by kernel_rfl) (by kernel_rfl) (by kernel_rfl) (fun _ _ _ h => h) (Or.inl ⟨by rfl, ?_⟩) (by assumption) ?_
      rotate_left 1
      · (intro w hSw; (try dsimp only at hSw); go_simp; all_goals with_reducible rfl)
      try simp only [Act.put, List.setIfInBounds_toArray, List.set_cons_zero, List.set_cons_succ]
      refine wpAnyH_take (i := 2) (v := ?_) rfl (by kernel_rfl) (by kernel_rfl) (by kernel_rfl) (fun _ _ _ h => h) (Or.inl ⟨by rfl, ?_⟩) (by assumption) ?_
      rotate_left 1
      · (intro w hSw; (try dsimp only at hSw); go_simp; all_goals with_reducible rfl)
      try simp only [Act.put, List.setIfInBounds_toArray, List.set_cons_zero, List.set_cons_succ]
      refine wpAnyH_take (i := 3) (v := ?_) rfl (by kernel_rfl) (by kernel_rfl) (by kernel_rfl) (fun _ _ _ h => h) (Or.inl ⟨by rfl, ?_⟩) (by assumption) ?_
      rotate_left 1
      · (intro w hSw; (try dsimp only at hSw); go_simp; all_goals with_reducible rfl)
      try simp only [Act.put, List.setIfInBounds_toArray, List.set_cons_zero, List.set_cons_succ]
      refine wpAnyH_take (i := 4) (v := ?_) rfl (by kernel_rfl) (by kernel_rfl) (by kernel_rfl) (fun _ _ _ h => h) (Or.inl ⟨by rfl, ?_⟩) (by assumption) ?_
      rotate_left 1
      · (intro w hSw; (try dsimp only at hSw); go_simp; all_goals with_reducible rfl)
      try simp only [Act.put, List.setIfInBounds_toArray, List.set_cons_zero, List.set_cons_succ]
      refine wpAnyH_take (i := 5) (v := ?_) rfl (by kernel_rfl) (by kernel_rfl) (by kernel_rfl) (fun _ _ _ h => h) (Or.inl ⟨by rfl, ?_⟩) (by assumption) ?_
      rotate_left 1
      · (intro w hSw; (try dsimp only at hSw); go_simp; all_goals with_reducible rfl)
      try simp only [Act.put, List.setIfInBounds_toArray, List.set_cons_zero, List.set_cons_succ]
      refine wpAnyH_take (i := 6) (v := ?_) rfl (by kernel_rfl) (by kernel_rfl) (by kernel_rfl) (fun _ _ _ h => h) (Or.inl ⟨by rfl, ?_⟩) (by assumption) ?_
      rotate_left 1
      · (intro w hSw; (try dsimp only at hSw); go_simp; all_goals with_reducible rfl)
      try simp only [Act.put, List.setIfInBounds_toArray, List.set_cons_zero, List.set_cons_succ]
      refine wpAnyH_take (i := 7) (v := ?_) rfl (by kernel_rfl) (by kernel_rfl) (by kernel_rfl) (fun _ _ _ h => h) (Or.inl ⟨by rfl, ?_⟩) (by assumption) ?_
      rotate_left 1
      · (intro w hSw; (try dsimp only at hSw); go_simp; all_goals with_reducible rfl)
      try simp only [Act.put, List.setIfInBounds_toArray, List.set_cons_zero, List.set_cons_succ]
      refine wpAnyH_take (i := 8) (v := ?_) rfl (by kernel_rfl) (by kernel_rfl) (by kernel_rfl) (fun _ _ _ h => h) (Or.inl ⟨by rfl, ?_⟩) (by assumption) ?_
      rotate_left 1
      · (intro w hSw; (try dsimp only at hSw); go_simp; all_goals with_reducible rfl)
      try simp only [Act.put, List.setIfInBounds_toArray, List.set_cons_zero, List.set_cons_succ]
      refine wpAnyH_take (i := 9) (v := ?_) rfl (by kernel_rfl) (by kernel_rfl) (by kernel_rfl) (fun _ _ _ h => h) (Or.inl ⟨by rfl, ?_⟩) (by assumption) ?_
      rotate_left 1
      · (intro w hSw; (try dsimp only at hSw); go_simp; all_goals with_reducible rfl)
      try simp only [Act.put, List.setIfInBounds_toArray, List.set_cons_zero, List.set_cons_succ]
      refine wpAnyH_take (i := 10) (v := ?_) rfl (by kernel_rfl) (by kernel_rfl) (by kernel_rfl) (fun _ _ _ h => h) (Or.inl ⟨by rfl, ?_⟩) (by assumption) ?_
      rotate_left 1
      · (intro w hSw; (try dsimp only at hSw); go_simp; all_goals with_reducible rfl)
      try simp only [Act.put, List.setIfInBounds_toArray, List.set_cons_zero, List.set_cons_succ]
      refine wpAnyH_take (i := 11) (v := ?_) rfl (by kernel_rfl) (by kernel_rfl) (by kernel_rfl) (fun _ _ _ h => h) (Or.inl ⟨by rfl, ?_⟩) (by assumption) ?_
      rotate_left 1
      · (intro w hSw; (try dsimp only at hSw); go_simp; all_goals with_reducible rfl)
      try simp only [Act.put, List.setIfInBounds_toArray, List.set_cons_zero, List.set_cons_succ]
      refine wpAnyH_take (i := 12) (v := ?_) rfl (by kernel_rfl) (by kernel_rfl) (by kernel_rfl) (fun _ _ _ h => h) (Or.inl ⟨by rfl, ?_⟩) (by assumption) ?_
      rotate_left 1
      · (intro w hSw; (try dsimp only at hSw); go_simp; all_goals with_reducible rfl)
      try simp only [Act.put, List.setIfInBounds_toArray, List.set_cons_zero, List.set_cons_succ]
      refine wpAnyH_ready (rs := [13]) (by kernel_rfl) (by simp) ?_
      refine AllReadyH.cons rfl (fun K hK => ?_) ?_
      rotate_left 1
      · exact AllReadyH.nil
      go_simp
      obtain ⟨s1, s2, s3, s4⟩ := hHeld
      have T0 : (wr.alloc (Obj.cells #[.int .i64 f, .int .i64 tt, .int .i64 mo] 63)).drew.cell? ⟨w.heap.size, 1, none⟩ = some (.slice (some y) m cap) ∧ (wr.alloc (Obj.cells #[.int .i64 f, .int .i64 tt, .int .i64 mo] 63)).drew.cell? (y.add (q * 3)) = some (.int .i64 f) ∧ (wr.alloc (Obj.cells #[.int .i64 f, .int .i64 tt, .int .i64 mo] 63)).drew.cell? ⟨(y.add (q * 3)).block, (y.add (q * 3)).off + 1, none⟩ = some (.int .i64 tt) ∧ (wr.alloc (Obj.cells #[.int .i64 f, .int .i64 tt, .int .i64 mo] 63)).drew.cell? ⟨(y.add (q * 3)).block, (y.add (q * 3)).off + 2, none⟩ = some (.int .i64 mo) := ⟨cell_alloc s1 _, cell_alloc s2 _, cell_alloc s3 _, cell_alloc s4 _⟩
      refine hK.out _ _ T0 (fun hHeld2 => ?_)
      clear hK K
      try simp only [Act.put, List.setIfInBounds_toArray, List.set_cons_zero, List.set_cons_succ]
      refine wpAnyH_ready (rs := [14]) (by kernel_rfl) (by simp) ?_
      refine AllReadyH.cons rfl (fun K hK => ?_) ?_
      rotate_left 1
      · exact AllReadyH.nil
      have hbW : Below wr.heap.size wr (wr.alloc (Obj.cells #[.int .i64 f, .int .i64 tt, .int .i64 mo] 63)).drew := ((Below.refl wr.heap.size wr).alloc (Nat.le_refl _) _).drew
      have hbW2 : Below w1.heap.size w1 (wr.alloc (Obj.cells #[.int .i64 f, .int .i64 tt, .int .i64 mo] 63)).drew := hB.out.trans (hbW.mono hB.out.size)
      refine step_append_lks (by rfl) _ _ (by rfl) w1.heap.size _ (Ch.rot L t j).length (Ch.rot L t j) (by rfl) ((hown.out.alloc _).drew) (some ⟨wr.heap.size, 0, none⟩) 1 1 [⟨f, tt, mo⟩] rfl (by rfl) ((lks_one wr f tt mo).below (Below.refl _ _).drew) (fun h => by cases h) (by omega) hbW2.size ?_
      intro p1 cp1 wp1 hown1 hgrow1
      have hfar := fun g hg => owns_far hown.out (g := g) hg
      obtain ⟨u1, u2, u3, u4⟩ := hHeld2
      refine hK.out _ _ ⟨cell_far hgrow1 hfar (by show w.heap.size < _; omega) u1, cell_far hgrow1 hfar (by omega) u2, cell_far hgrow1 hfar (by show (y.add (q * 3)).block < _; omega) u3, cell_far hgrow1 hfar (by show (y.add (q * 3)).block < _; omega) u4⟩ (fun hHeld3 => ?_)
      clear hK K
      try simp only [Act.put, List.setIfInBounds_toArray, List.set_cons_zero, List.set_cons_succ]
      refine wpAnyH_done (by kernel_rfl) ?_ _
      show wpList _ _ _ _ _ _
      have hB2 := Lib.hid (below_grown hbW2 ((hown.out.alloc (Obj.cells #[.int .i64 f, .int .i64 tt, .int .i64 mo] 63)).drew) hgrow1)
      have hown2 : Hid (wp1.ownsRow w1.heap.size 63 3 (.slice p1 (j + 1) cp1) (Ch.rot L t (j + 1)).length (lkCells (Ch.rot L t (j + 1)))) := Lib.hid (by
        have h := hown1
        rw [hnx, List.length_append]
        rw [hrl9] at h ⊢
        exact h)
      clear hown1 hgrow1 hfar hHeld3 u1 u2 u3 u4 s1 s2 s3 s4 T0 S0 hbW hbW2 hB hown
      go_wp2
      go_roundw
      case rel => exact ⟨j + 1, by omega, by go_num, hB2, hown2⟩
      case measure => show m - ((j : Int) + 1).toNat < m - (j : Int).toNat; omega
    · obtain rfl : j = m := by omega
      have hi5 : ¬ (j : Int) < (j : Int) := by omega
      rw [hMM.out] at hown
      obtain ⟨px, cx, hv9, hK2⟩ := lks_of_owns hown.out
      rw [hrl.out] at hv9
      subst hv9
      have hJ2 := Lib.hid (hJ.out.below hB.out)
      have hb9 : Below wr.heap.size wr (wr.alloc (Obj.cells #[.int .i64 (N : Int), .slice px j cx] 24)) := (Below.refl _ _).alloc (Nat.le_refl _) _
      have hJ3 := Lib.hid (hJ2.out.below hb9)
      have hX3 : Hid (SX wr.heap.size (N : Int) px j cx M (wr.alloc (Obj.cells #[.int .i64 (N : Int), .slice px j cx] 24))) := Lib.hid ⟨by simp [go_sem], by simp [go_sem], hK2.below hb9⟩
      clear hB hown hb9 hJ hJ2 hK2
      have x0 := hX3.out.c0
      have x1 := hX3.out.c1
      go_upto_region 9 with fail
      generalize wr.alloc (Obj.cells #[.int .i64 (N : Int), .slice px j cx] 24) = W3 at *
      generalize wr.heap.size = xb at *
      clear k0 k1 x0 x1
      have k0 := hJ3.out.c0
      have k1 := hJ3.out.c1
      have x0 := hX3.out.c0
      have x1 := hX3.out.c1
      go_wp2_with fail
      refine (HTi.out _ hJ3.out).mono ?_
      rintro e w4 ⟨hb, h⟩
      obtain ⟨_, ob, S0, _, _, rfl, ho1, hr1⟩ := h.resolve_left (fun h => h.1 rfl)
      have hJ4 := Lib.hid (hJ3.out.below hb)
      have hX4 := Lib.hid (hX3.out.below hb)
      have hT4 := Lib.hid (TBL.mk (D := D) ho1 hr1)
      clear ho1 hr1 hb hJ3 hX3 k0 k1 x0 x1 HTi h
      have k0 := hJ4.out.c0
      have k1 := hJ4.out.c1
      have x0 := hX4.out.c0
      have x1 := hX4.out.c1
      go_wp2_with fail
      refine (HT2.out _ _ _ _ hX4.out).mono ?_
      rintro e w5 ⟨hb, h⟩
      obtain ⟨_, ob2, S2, _, _, rfl, ho1, hr1⟩ := h.resolve_left (fun h => h.1 rfl)
      have hJ5 := Lib.hid (hJ4.out.below hb)
      have hX5 := Lib.hid (hX4.out.below hb)
      have hT5 := Lib.hid (hT4.out.below hb)
      have hU5 : Hid (TBL N ob2 S2 D w5) := Lib.hid ⟨ho1, fun u hu => (hr1 u hu).congr (fun v hv => by rw [htb.out u v hu hv])⟩
      clear ho1 hr1 hb hJ4 hX4 hT4 k0 k1 x0 x1 HT2 h
      have k0 := hJ5.out.c0
      have k1 := hJ5.out.c1
      have x0 := hX5.out.c0
      have x1 := hX5.out.c1
      go_wp2_with fail
      refine (HCl.out _ hJ5.out).mono ?_
      rintro e w6 ⟨cv, rfl, hown, hb⟩
      obtain ⟨p6, c6, rfl, _⟩ := ints_of_own hown
      have hJ6 := Lib.hid (hJ5.out.below hb)
      have hX6 := Lib.hid (hX5.out.below hb)
      have hT6 := Lib.hid (hT5.out.below hb)
      have hU6 := Lib.hid (hU5.out.below hb)
      clear hb hJ5 hX5 hT5 hU5 k0 k1 x0 x1 HCl hown
      have k0 := hJ6.out.c0
      have k1 := hJ6.out.c1
      have x0 := hX6.out.c0
      have x1 := hX6.out.c1
      go_wp2_with fail
      refine (HC2.out _ _ _ _ hX6.out).mono ?_
      rintro e w7 ⟨dv, rfl, hown, hb⟩
      obtain ⟨p7, c7, rfl, _⟩ := ints_of_own hown
      rw [← hcl.out]
      have hJ7 := Lib.hid (hJ6.out.below hb)
      have hX7 := Lib.hid (hX6.out.below hb)
      have hT7 := Lib.hid (hT6.out.below hb)
      have hU7 := Lib.hid (hU6.out.below hb)
      clear hb hJ6 hX6 hT6 hU6 k0 k1 x0 x1 HC2 hown
      have k0 := hJ7.out.c0
      have k1 := hJ7.out.c1
      go_wp2_with fail
      refine (HSa.out _).mono ?_
      rintro e w8 ⟨rfl, hb⟩
      have hJ8 := Lib.hid (hJ7.out.below hb)
      have hT8 := Lib.hid (hT7.out.below hb)
      have hU8 := Lib.hid (hU7.out.below hb)
      clear hb hJ7 hT7 hU7 k0 k1 HSa
      have HSt := Lib.hid (sameTable_true N ob S0 ob2 S2 (by omega) D w8 hT8 hU8)
      go_wp2_with fail
      refine HSt.out.mono ?_
      rintro e w9 ⟨rfl, hb⟩
      have hB := hJ8.out.b.trans (hb.mono hJ8.out.b.size)
      clear hb hJ8 HSt
      go_wp2
      go_ret
      exact ⟨rfl, hB⟩
set_option linter.unusedSimpArgs false in
set_option maxRecDepth 100000 in
set_option maxHeartbeats 8000000 in
theorem order_err (n : Int) (a : Option Addr) (m cap t : Nat) (ht : t ≤ 255) (L : List Ch.Lk) (hm : Hid (L.length = m)) (hm9 : m ≤ 310) (hm0 : 0 < m) (hsm : Hid ((decide (m ≤ 310) && decide (n ≤ 70)) = true)) (k k2 : Nat) (hS : Ch.Same n L (Ch.rot L t L.length) k k2) (ho : ¬ Ch.opn n L [] k = 0) (w : World) (hL : Hid (LksAt w a L)) :
    Calls Try.prog 10 #[sysV n a m cap, .int .u8 t] w (LawPost w) := by
  have HSm := Lib.hid fun (W : World) => small_any n a m cap true hsm W
  have HSa := Lib.hid fun (W : World) => sanity_any W
  have hrl : (Ch.rot L t L.length).length = m := by rw [Ch.rot_len]; exact hm.out
  have hnext := fun j => Ch.rot_next (L := L) (t := t) (j := j)
  rw [hm.out] at hrl hnext hS
  have hsame := hS.opn
  obtain ⟨c, d, er, hc1, hc2, hcl⟩ := hS.clash
  have HTi := Lib.hid fun (W : World) (h : SB w n a m cap L W) => tight_any n a cap L k hS.e1.en W h.l
  have HCl := Lib.hid fun (W : World) (h : SB w n a m cap L W) => clashE_any n a cap L k hS.e1.en c er hc1 W h.l
  rw [hm.out] at HTi HCl
  obtain ⟨M, hMM⟩ : ∃ M, Ch.rot L t m = M := ⟨_, rfl⟩
  have hMM2 := hMM
  rw [hMM] at hrl hS hsame hc2
  have HT2 := Lib.hid fun (W : World) (xb : Nat) (x : Option Addr) (cx : Nat) (h : SX xb n x m cx M W) => tight_any n x cx M k2 hS.e2.en W h.l
  have HC2 := Lib.hid fun (W : World) (xb : Nat) (x : Option Addr) (cx : Nat) (h : SX xb n x m cx M W) => clashE_any n x cx M k2 hS.e2.en d er hc2 W h.l
  rw [hrl] at HT2 HC2
  obtain ⟨ec, hec⟩ : ∃ ec, Ch.opn n L [] k = ec := ⟨_, rfl⟩
  rw [← hsame, hec] at HT2
  rw [hec] at HTi ho
  have heq : (ec == ec) = true := by simp
  have heq2 : (er == er) = true := by simp
  replace hcl := Lib.hid hcl
  replace hMM := Lib.hid hMM
  replace hrl := Lib.hid hrl
  replace hnext := Lib.hid hnext
  have hm1 : ((m : Int) == 0) = false := by rw [beq_eq_false_iff_ne]; omega
  have hm2 : ¬ (m : Int) = 0 := by omega
  unfold sysV at *
  clear hS hc1 hc2 hsame hMM2 hec
  go_enter Try.func10, Try.ntmps10
  go_wp2_with fail
  refine (HSm.out _).mono ?_
  rintro e w1 ⟨rfl, hb⟩
  have hB1 := bstep1 (Below.refl _ _) hb
  have hJ := Lib.hid (SB.mk (w := w) (n := n) (a := a) (m := m) (cap := cap) (W := w1) (kept1 (by simp [go_sem]) hb) (kept1 (by simp [go_sem]) hb) (hL.out.below hB1) hB1)
  clear hb hB1 HSm hsm hL
  have k0 := hJ.out.c0
  have k1 := hJ.out.c1
  go_wp2
  go_loopw [6, 5] (fun i lv wr => ∃ j : Nat, j ≤ m ∧ i = .int .i64 j ∧ Hid (Below w1.heap.size w1 wr) ∧ Hid (wr.ownsRow w1.heap.size 63 3 lv (Ch.rot L t j).length (lkCells (Ch.rot L t j)))) (fun i _ _ => m - (RowKit.intOf i).toNat)
  case atStart => exact ⟨0, Nat.zero_le _, rfl, Lib.hid (Below.refl _ _), Lib.hid (World.ownsRow_nil _ _ _ _)⟩
  case round =>
    clear k0 k1
    obtain ⟨j, hj, rfl, hB, hown⟩ := hrel
    have k0 := kept1 hJ.out.c0 hB.out
    have k1 := kept1 hJ.out.c1 hB.out
    by_cases hlt : j < m
    · have hi5 : (j : Int) < (m : Int) := by omega
      have hi6 : (0 : Int) ≤ (j : Int) := by omega
      have hrem : ((j : Int) + (t : Int)).tmod (m : Int) = (((j + t) % m : Nat) : Int) := by
        rw [show (j : Int) + (t : Int) = ((j + t : Nat) : Int) by omega]; rfl
      have hrem2 : ((j : Int) + (t : Int)) % (m : Int) = (((j + t) % m : Nat) : Int) := by
        rw [show (j : Int) + (t : Int) = ((j + t : Nat) : Int) by omega]; rfl
      have hm3 : ¬ m = 0 := by omega
      have hm4 : (m == 0) = false := by rw [beq_eq_false_iff_ne]; exact hm3
      have hjt : 0 ≤ (j : Int) + (t : Int) := by omega
      have hq := Nat.mod_lt (j + t) hm0
      have hnx := hnext.out j
      obtain ⟨q, hqe⟩ : ∃ q, (j + t) % m = q := ⟨_, rfl⟩
      rw [hqe] at hrem hrem2 hq hnx
      have hw1 : IntKind.i64.wrap (t : Int) = (t : Int) := wrap_ok (by omega) (by omega)
      have hw2 : IntKind.i64.wrap ((j : Int) + (t : Int)) = (j : Int) + (t : Int) := wrap_ok (by omega) (by omega)
      have hw3 : IntKind.i64.wrap (q : Int) = (q : Int) := wrap_ok (by omega) (by omega)
      have hq5 : (q : Int) < (m : Int) := by omega
      have hq6 : (0 : Int) ≤ (q : Int) := by omega
      obtain ⟨y, rfl, hl3⟩ := hJ.out.l q (by have := hm.out; omega)
      have hyb := block_lt_of_cell hl3.1
      have hwb : w.heap.size < w1.heap.size := block_lt_of_cell hJ.out.c0
      have ⟨g0, g1, g2⟩ := hl3.below hB.out
      obtain ⟨f, tt, mo, hlk⟩ : ∃ f t mo, L.getD q Ch.noLk = ⟨f, t, mo⟩ := ⟨_, _, _, rfl⟩
      rw [hlk] at g0 g1 g2 hnx
      simp only at g0 g1 g2
      have hrl9 := Ch.rot_len L t j
      have S0 : wr.drew.cell? ⟨w.heap.size, 1, none⟩ = some (.slice (some y) m cap) ∧ wr.drew.cell? (y.add (q * 3)) = some (.int .i64 f) ∧ wr.drew.cell? ⟨(y.add (q * 3)).block, (y.add (q * 3)).off + 1, none⟩ = some (.int .i64 tt) ∧ wr.drew.cell? ⟨(y.add (q * 3)).block, (y.add (q * 3)).off + 2, none⟩ = some (.int .i64 mo) := ⟨k1, g0, g1, g2⟩
      clear hl3 hlk hqe g0 g1 g2
      go_upto_region 7 with fail
      clear k0 k1
      refine region_head_held 15 (fun w' => w'.cell? ⟨w.heap.size, 1, none⟩ = some (.slice (some y) m cap) ∧ w'.cell? (y.add (q * 3)) = some (.int .i64 f) ∧ w'.cell? ⟨(y.add (q * 3)).block, (y.add (q * 3)).off + 1, none⟩ = some (.int .i64 tt) ∧ w'.cell? ⟨(y.add (q * 3)).block, (y.add (q * 3)).off + 2, none⟩ = some (.int .i64 mo)) (by kernel_rfl) (by kernel_rfl) S0 (fun hHeld => ?_)
      simp only [List.take_succ_cons, List.take_zero, List.drop_succ_cons, List.drop_zero]
      refine wpAnyH_take (i := 0) (v := ?_) rfl (by kernel_rfl) (by kernel_rfl) (by kernel_rfl) (fun _ _ _ h => h) (Or.inl ⟨by rfl, ?_⟩) (by assumption) ?_
      rotate_left 1
      · (intro w hSw; (try dsimp only at hSw); go_simp; all_goals with_reducible rfl)
      try simp only [Act.put, List.setIfInBounds_toArray, List.set_cons_zero, List.set_cons_succ]
      refine wpAnyH_take (i := 1) (v := ?_) rfl (by kernel_rfl) (by kernel_rfl) (by kernel_rfl) (fun _ _ _ h => h) (Or.inl ⟨by rfl, ?_⟩) (by assumption) ?_
      rotate_left 1
      · (intro w hSw; (try dsimp only at hSw); go_simp; all_goals with_reducible rfl)
      try simp only [Act.put, List.setIfInBounds_toArray, List.set_cons_zero, List.set_cons_succ]
      refine wpAnyH_take (i := 2) (v := ?_) rfl (by kernel_rfl) (by kernel_rfl) (by kernel_rfl) (fun _ _ _ h => h) (Or.inl ⟨by rfl, ?_⟩) (by assumption) ?_
      rotate_left 1
      · (intro w hSw; (try dsimp only at hSw); go_simp; all_goals with_reducible rfl)
      try simp only [Act.put, List.setIfInBounds_toArray, List.set_cons_zero, List.set_cons_succ]
      refine wpAnyH_take (i := 3) (v := ?_) rfl (by kernel_rfl) (by kernel_rfl) (by kernel_rfl) (fun _ _ _ h => h) (Or.inl ⟨by rfl, ?_⟩) (by assumption) ?_
      rotate_left 1
      · (intro w hSw; (try dsimp only at hSw); go_simp; all_goals with_reducible rfl)
      try simp only [Act.put, List.setIfInBounds_toArray, List.set_cons_zero, List.set_cons_succ]
      refine wpAnyH_take (i := 4) (v := ?_) rfl (by kernel_rfl) (by kernel_rfl) (by kernel_rfl) (fun _ _ _ h => h) (Or.inl ⟨by rfl, ?_⟩) (by assumption) ?_
      rotate_left 1
      · (intro w hSw; (try dsimp only at hSw); go_simp; all_goals with_reducible rfl)
      try simp only [Act.put, List.setIfInBounds_toArray, List.set_cons_zero, List.set_cons_succ]
      refine wpAnyH_take (i := 5) (v := ?_) rfl (by kernel_rfl) (by kernel_rfl) (by kernel_rfl) (fun _ _ _ h => h) (Or.inl ⟨by rfl, ?_⟩) (by assumption) ?_
      rotate_left 1
      · (intro w hSw; (try dsimp only at hSw); go_simp; all_goals with_reducible rfl)
      try simp only [Act.put, List.setIfInBounds_toArray, List.set_cons_zero, List.set_cons_succ]
      refine wpAnyH_take (i := 6) (v := ?_) rfl (by kernel_rfl) (by kernel_rfl) (by kernel_rfl) (fun _ _ _ h => h) (Or.inl ⟨by rfl, ?_⟩) (by assumption) ?_
      rotate_left 1
      · (intro w hSw; (try dsimp only at hSw); go_simp; all_goals with_reducible rfl)
      try simp only [Act.put, List.setIfInBounds_toArray, List.set_cons_zero, List.set_cons_succ]
      refine wpAnyH_take (i := 7) (v := ?_) rfl (by kernel_rfl) (by kernel_rfl) (by kernel_rfl) (fun _ _ _ h => h) (Or.inl ⟨by rfl, ?_⟩) (by assumption) ?_
      rotate_left 1
      · (intro w hSw; (try dsimp only at hSw); go_simp; all_goals with_reducible rfl)
      try simp only [Act.put, List.setIfInBounds_toArray, List.set_cons_zero, List.set_cons_succ]
      refine wpAnyH_take (i := 8) (v := ?_) rfl (by kernel_rfl) (by kernel_rfl) (by kernel_rfl) (fun _ _ _ h => h) (Or.inl ⟨by rfl, ?_⟩) (by assumption) ?_
      rotate_left 1
      · (intro w hSw; (try dsimp only at hSw); go_simp; all_goals with_reducible rfl)
      try simp only [Act.put, List.setIfInBounds_toArray, List.set_cons_zero, List.set_cons_succ]
      refine wpAnyH_take (i := 9) (v := ?_) rfl (by kernel_rfl) (by kernel_rfl) (by kernel_rfl) (fun _ _ _ h => h) (Or.inl ⟨by rfl, ?_⟩) (by assumption) ?_
      rotate_left 1
      · (intro w hSw; (try dsimp only at hSw); go_simp; all_goals with_reducible rfl)
      try simp only [Act.put, List.setIfInBounds_toArray, List.set_cons_zero, List.set_cons_succ]
      refine wpAnyH_take (i := 10) (v := ?_) rfl (by kernel_rfl) (by kernel_rfl) (by kernel_rfl) (fun _ _ _ h => h) (Or.inl ⟨by rfl, ?_⟩) (by assumption) ?_
      rotate_left 1
      · (intro w hSw; (try dsimp only at hSw); go_simp; all_goals with_reducible rfl)
      try simp only [Act.put, List.setIfInBounds_toArray, List.set_cons_zero, List.set_cons_succ]
      refine wpAnyH_take (i := 11) (v := ?_) rfl (by kernel_rfl) (by kernel_rfl) (by kernel_rfl) (fun _ _ _ h => h) (Or.inl ⟨by rfl, ?_⟩) (by assumption) ?_
      rotate_left 1
      · (intro w hSw; (try dsimp only at hSw); go_simp; all_goals with_reducible rfl)
      try simp only [Act.put, List.setIfInBounds_toArray, List.set_cons_zero, List.set_cons_succ]
      refine wpAnyH_take (i := 12) (v := ?_) rfl (by kernel_rfl) (by kernel_rfl) (by kernel_rfl) (fun _ _ _ h => h) (Or.inl ⟨by rfl, ?_⟩) (by assumption) ?_
      rotate_left 1
      · (intro w hSw; (try dsimp only at hSw); go_simp; all_goals with_reducible rfl)
      try simp only [Act.put, List.setIfInBounds_toArray, List.set_cons_zero, List.set_cons_succ]
      refine wpAnyH_ready (rs := [13]) (by kernel_rfl) (by simp) ?_
      refine AllReadyH.cons rfl (fun K hK => ?_) ?_
      rotate_left 1
      · exact AllReadyH.nil
      go_simp
      obtain ⟨s1, s2, s3, s4⟩ := hHeld
      have T0 : (wr.alloc (Obj.cells #[.int .i64 f, .int .i64 tt, .int .i64 mo] 63)).drew.cell? ⟨w.heap.size, 1, none⟩ = some (.slice (some y) m cap) ∧ (wr.alloc (Obj.cells #[.int .i64 f, .int .i64 tt, .int .i64 mo] 63)).drew.cell? (y.add (q * 3)) = some (.int .i64 f) ∧ (wr.alloc (Obj.cells #[.int .i64 f, .int .i64 tt, .int .i64 mo] 63)).drew.cell? ⟨(y.add (q * 3)).block, (y.add (q * 3)).off + 1, none⟩ = some (.int .i64 tt) ∧ (wr.alloc (Obj.cells #[.int .i64 f, .int .i64 tt, .int .i64 mo] 63)).drew.cell? ⟨(y.add (q * 3)).block, (y.add (q * 3)).off + 2, none⟩ = some (.int .i64 mo) := ⟨cell_alloc s1 _, cell_alloc s2 _, cell_alloc s3 _, cell_alloc s4 _⟩
      refine hK.out _ _ T0 (fun hHeld2 => ?_)
      clear hK K
      try simp only [Act.put, List.setIfInBounds_toArray, List.set_cons_zero, List.set_cons_succ]
      refine wpAnyH_ready (rs := [14]) (by kernel_rfl) (by simp) ?_
      refine AllReadyH.cons rfl (fun K hK => ?_) ?_
      rotate_left 1
      · exact AllReadyH.nil
      have hbW : Below wr.heap.size wr (wr.alloc (Obj.cells #[.int .i64 f, .int .i64 tt, .int .i64 mo] 63)).drew := ((Below.refl wr.heap.size wr).alloc (Nat.le_refl _) _).drew
      have hbW2 : Below w1.heap.size w1 (wr.alloc (Obj.cells #[.int .i64 f, .int .i64 tt, .int .i64 mo] 63)).drew := hB.out.trans (hbW.mono hB.out.size)
      refine step_append_lks (by rfl) _ _ (by rfl) w1.heap.size _ (Ch.rot L t j).length (Ch.rot L t j) (by rfl) ((hown.out.alloc _).drew) (some ⟨wr.heap.size, 0, none⟩) 1 1 [⟨f, tt, mo⟩] rfl (by rfl) ((lks_one wr f tt mo).below (Below.refl _ _).drew) (fun h => by cases h) (by omega) hbW2.size ?_
      intro p1 cp1 wp1 hown1 hgrow1
      have hfar := fun g hg => owns_far hown.out (g := g) hg
      obtain ⟨u1, u2, u3, u4⟩ := hHeld2
      refine hK.out _ _ ⟨cell_far hgrow1 hfar (by show w.heap.size < _; omega) u1, cell_far hgrow1 hfar (by omega) u2, cell_far hgrow1 hfar (by show (y.add (q * 3)).block < _; omega) u3, cell_far hgrow1 hfar (by show (y.add (q * 3)).block < _; omega) u4⟩ (fun hHeld3 => ?_)
      clear hK K
      try simp only [Act.put, List.setIfInBounds_toArray, List.set_cons_zero, List.set_cons_succ]
      refine wpAnyH_done (by kernel_rfl) ?_ _
      show wpList _ _ _ _ _ _
      have hB2 := Lib.hid (below_grown hbW2 ((hown.out.alloc (Obj.cells #[.int .i64 f, .int .i64 tt, .int .i64 mo] 63)).drew) hgrow1)
      have hown2 : Hid (wp1.ownsRow w1.heap.size 63 3 (.slice p1 (j + 1) cp1) (Ch.rot L t (j + 1)).length (lkCells (Ch.rot L t (j + 1)))) := Lib.hid (by
        have h := hown1
        rw [hnx, List.length_append]
        rw [hrl9] at h ⊢
        exact h)
      clear hown1 hgrow1 hfar hHeld3 u1 u2 u3 u4 s1 s2 s3 s4 T0 S0 hbW hbW2 hB hown
      go_wp2
      go_roundw
      case rel => exact ⟨j + 1, by omega, by go_num, hB2, hown2⟩
      case measure => show m - ((j : Int) + 1).toNat < m - (j : Int).toNat; omega
    · obtain rfl : j = m := by omega
      have hi5 : ¬ (j : Int) < (j : Int) := by omega
      rw [hMM.out] at hown
      obtain ⟨px, cx, hv9, hK2⟩ := lks_of_owns hown.out
      rw [hrl.out] at hv9
      subst hv9
      have hJ2 := Lib.hid (hJ.out.below hB.out)
      have hb9 : Below wr.heap.size wr (wr.alloc (Obj.cells #[.int .i64 n, .slice px j cx] 24)) := (Below.refl _ _).alloc (Nat.le_refl _) _
      have hJ3 := Lib.hid (hJ2.out.below hb9)
      have hX3 : Hid (SX wr.heap.size n px j cx M (wr.alloc (Obj.cells #[.int .i64 n, .slice px j cx] 24))) := Lib.hid ⟨by simp [go_sem], by simp [go_sem], hK2.below hb9⟩
      clear hB hown hb9 hJ hJ2 hK2
      have x0 := hX3.out.c0
      have x1 := hX3.out.c1
      go_upto_region 9 with fail
      generalize wr.alloc (Obj.cells #[.int .i64 n, .slice px j cx] 24) = W3 at *
      generalize wr.heap.size = xb at *
      clear k0 k1 x0 x1
      have k0 := hJ3.out.c0
      have k1 := hJ3.out.c1
      have x0 := hX3.out.c0
      have x1 := hX3.out.c1
      go_wp2_with fail
      refine (HTi.out _ hJ3.out).mono ?_
      rintro e w4 ⟨hb, h⟩
      obtain ⟨_, rfl⟩ := h.resolve_right (fun h => ho h.1)
      have hJ4 := Lib.hid (hJ3.out.below hb)
      have hX4 := Lib.hid (hX3.out.below hb)
      clear hb hJ3 hX3 k0 k1 x0 x1 HTi h
      have k0 := hJ4.out.c0
      have k1 := hJ4.out.c1
      have x0 := hX4.out.c0
      have x1 := hX4.out.c1
      go_wp2_with fail
      refine (HT2.out _ _ _ _ hX4.out).mono ?_
      rintro e w5 ⟨hb, h⟩
      obtain ⟨_, rfl⟩ := h.resolve_right (fun h => ho h.1)
      have hJ5 := Lib.hid (hJ4.out.below hb)
      have hX5 := Lib.hid (hX4.out.below hb)
      clear hb hJ4 hX4 k0 k1 x0 x1 HT2 h
      have k0 := hJ5.out.c0
      have k1 := hJ5.out.c1
      have x0 := hX5.out.c0
      have x1 := hX5.out.c1
      go_wp2_with fail
      refine (HCl.out _ hJ5.out).mono ?_
      rintro e w6 ⟨cv, rfl, hown, hb⟩
      obtain ⟨p6, c6, rfl, _⟩ := ints_of_own hown
      have hJ6 := Lib.hid (hJ5.out.below hb)
      have hX6 := Lib.hid (hX5.out.below hb)
      clear hb hJ5 hX5 k0 k1 x0 x1 HCl hown
      have k0 := hJ6.out.c0
      have k1 := hJ6.out.c1
      have x0 := hX6.out.c0
      have x1 := hX6.out.c1
      go_wp2_with fail
      refine (HC2.out _ _ _ _ hX6.out).mono ?_
      rintro e w7 ⟨dv, rfl, hown, hb⟩
      obtain ⟨p7, c7, rfl, _⟩ := ints_of_own hown
      rw [← hcl.out]
      have hJ7 := Lib.hid (hJ6.out.below hb)
      have hX7 := Lib.hid (hX6.out.below hb)
      clear hb hJ6 hX6 k0 k1 x0 x1 HC2 hown
      have k0 := hJ7.out.c0
      have k1 := hJ7.out.c1
      go_wp2_with fail
      refine (HSa.out _).mono ?_
      rintro e w8 ⟨rfl, hb⟩
      have hJ8 := Lib.hid (hJ7.out.below hb)
      clear hb hJ7 k0 k1 HSa
      have HSt := Lib.hid (sameTable_none w8)
      go_wp2_with fail
      refine HSt.out.mono ?_
      rintro e w9 ⟨rfl, hb⟩
      have hB := hJ8.out.b.trans (hb.mono hJ8.out.b.size)
      clear hb hJ8 HSt
      go_wp2
      go_ret
      exact ⟨rfl, hB⟩
set_option linter.unusedSimpArgs false in
set_option maxRecDepth 100000 in
set_option maxHeartbeats 8000000 in
theorem order_other (n : Int) (a : Option Addr) (m cap t : Nat) (h : ¬ ((decide (m ≤ 310) && decide (n ≤ 70)) = true ∧ 0 < m)) (w : World) :
    Calls Try.prog 10 #[sysV n a m cap, .int .u8 t] w (LawPost w) := by
  have HSa := Lib.hid fun (W : World) => sanity_any W
  obtain ⟨sm, hsm⟩ : ∃ sm, (decide (m ≤ 310) && decide (n ≤ 70)) = sm := ⟨_, rfl⟩
  have HSm := Lib.hid fun (W : World) => small_any n a m cap sm (Lib.hid hsm) W
  rw [hsm] at h
  replace h := Lib.hid h
  clear hsm
  unfold sysV at *
  cases sm
  · skip
    go_enter Try.func10, Try.ntmps10
    go_wp2_with fail
    refine (HSm.out _).mono ?_
    rintro e w1 ⟨rfl, hb⟩
    have hB1 := bstep1 (Below.refl _ _) hb
    have k1 : w1.cell? ⟨w.heap.size, 1, none⟩ = some (.slice a m cap) := kept1 (by simp [go_sem]) hb
    clear hb HSm
    go_wp2_with fail
    refine (HSa.out _).mono ?_
    rintro e w4 ⟨rfl, hb⟩
    have hB := hB1.trans (hb.mono hB1.size)
    clear hb hB1 k1
    go_wp2
    go_ret
    exact ⟨rfl, hB⟩
  · obtain rfl : m = 0 := Classical.byContradiction fun e => h.out ⟨rfl, by omega⟩
    go_enter Try.func10, Try.ntmps10
    go_wp2_with fail
    refine (HSm.out _).mono ?_
    rintro e w1 ⟨rfl, hb⟩
    have hB1 := bstep1 (Below.refl _ _) hb
    have k1 : w1.cell? ⟨w.heap.size, 1, none⟩ = some (.slice a 0 cap) := kept1 (by simp [go_sem]) hb
    clear hb HSm
    go_wp2_with fail
    refine (HSa.out _).mono ?_
    rintro e w4 ⟨rfl, hb⟩
    have hB := hB1.trans (hb.mono hB1.size)
    clear hb hB1 k1
    go_wp2
    go_ret
    exact ⟨rfl, hB⟩
/-- the law -/
theorem chainOrder_true (w : World) (n : Int) (a : Option Addr) (m cap : Nat) (_ : I64 n) (_ : a = none → cap = 0) (_ : m ≤ maxLen) (L : List Ch.Lk) (hm : L.length = m) (hL : LksAt w a L) (_ : ∀ i, i < m → I64l (L.getD i Ch.noLk)) (t : Nat) (ht : t ≤ 255) :
    Calls Try.prog 10 #[sysV n a m cap, .int .u8 t] w (LawPost w) := by
  by_cases h : (decide (m ≤ 310) && decide (n ≤ 70)) = true ∧ 0 < m
  · obtain ⟨h1, h2⟩ := h
    have h9 : m ≤ 310 := by
      rw [Bool.and_eq_true, decide_eq_true_eq] at h1
      exact h1.1
    obtain ⟨K, hK⟩ := Ch.en_ex n L
    obtain ⟨K2, hK2⟩ := Ch.en_ex n (Ch.rot L t L.length)
    have hS : Ch.Same n L (Ch.rot L t L.length) K K2 := ⟨hK K (Nat.le_refl _), hK2 K2 (Nat.le_refl _), Ch.sub_rot, Ch.rot_sub, (Ch.rot_len _ _ _).symm⟩
    by_cases ho : Ch.opn n L [] K = 0
    · exact order_ok n a m cap t ht L (Lib.hid hm) h9 h2 (Lib.hid h1) K K2 hS ho w (Lib.hid hL)
    · exact order_err n a m cap t ht L (Lib.hid hm) h9 h2 (Lib.hid h1) K K2 hS ho w (Lib.hid hL)
  · exact order_other n a m cap t h w
end Go.Proofs.Ytpddjofmiakpbaa
