/- The law ChainMore: the walk where no bound stands against the link. -/
import Derived.Test.YtpddjofmiakpbaaZLrh
set_option linter.unusedSimpArgs false
set_option linter.unusedVariables false
namespace Go.Proofs.Ytpddjofmiakpbaa
open Go.RowKit

set_option maxRecDepth 100000 in
set_option maxHeartbeats 8000000 in
theorem more_b (n : Int) (a : Option Addr) (m cap : Nat) (f t z u v : Int) (L : List Ch.Lk) (hm : Hid (L.length = m)) (hm9 : m ≤ 310) (hsm : Hid ((decide (m ≤ 310) && decide (n ≤ 70)) = true)) (ha : Hid (a = none → cap = 0)) (k k2 : Nat) (hE : Ch.EN n L k) (hE2 : Ch.EN n (L ++ [⟨f, t, z⟩]) k2) (hop : Ch.opn n L [] k = 0) (hwe : Ch.withE n L [⟨f, t, z⟩] = 0) (hco : Ch.cons n.toNat (L ++ [⟨f, t, z⟩]) [] k2 = true) (hbk : Ch.tb n L k t.toNat f.toNat = 1152921504606846976) (w : World) (hL : Hid (LksAt w a L)) :
    Calls Try.prog 9 #[sysV n a m cap, .agg #[.int .i64 f, .int .i64 t, .int .i64 z], .int .i64 u, .int .i64 v] w (LawPost w) := by
  have HSm := Lib.hid fun (W : World) => small_any n a m cap true hsm W
  have HSa := Lib.hid fun (W : World) => sanity_any W
  have HTi := Lib.hid fun (W : World) (h : MO w n a m cap L f t z W) => tight_any n a cap L k hE.en W h.s.l
  have HWi := Lib.hid fun (W : World) (x : Option Addr) (cx : Nat) (hx : x = none → cx = 0) (h : MO w n a m cap L f t z W) (h2 : LksAt W x [⟨f, t, z⟩]) => with_any n a x m 1 cap cx L [⟨f, t, z⟩] hm (Lib.hid rfl) ha (Lib.hid hx) (by omega) W (Lib.hid h.s.l) (Lib.hid h2)
  rw [hm.out] at HTi
  obtain ⟨hck, hck2⟩ := Ch.with_one hwe
  obtain ⟨n1, n2, _, hokk⟩ := Ch.check_ok hck
  have hlk := Ch.more_ok hck2
  obtain ⟨f0, f1, t0, t1, _, z0, z1⟩ := Ch.okLk_spec hlk
  simp only at f0 f1 t0 t1 z0 z1
  obtain ⟨_, hsol, hTB⟩ := Ch.tb_of hE hop
  have hop2 := Ch.opn_nil (k := k2) hck2
  rw [hco] at hop2
  have hok' : ∀ j, j < L.length → Ch.okLk n.toNat (L.getD j Ch.noLk) = true := by rw [show ((n.toNat : Nat) : Int) = n by omega]; exact hokk
  have hlk' : Ch.okLk n.toNat ⟨f, t, z⟩ = true := by rw [show ((n.toNat : Nat) : Int) = n by omega]; exact hlk
  have hiff := Ch.more_sol hok' hlk' hTB
  rw [← hE2.sol hck2, hco] at hiff
  simp only at hiff
  rw [hwe] at HWi
  rw [hop] at HTi
  have hM : (L ++ [(⟨f, t, z⟩ : Ch.Lk)]).length = m + 1 := by rw [List.length_append, hm.out]; rfl
  have hM2 : L.length + [(⟨f, t, z⟩ : Ch.Lk)].length = m + 1 := by rw [hm.out]; rfl
  have hop3 : Ch.opn n (L ++ [⟨f, t, z⟩]) [] k2 = 0 := by rw [hop2]; rfl
  have hsl := Ch.slack_new hop3
  obtain ⟨_, _, hTB2⟩ := Ch.tb_of hE2 hop3
  have hH := hiff.1 trivial
  have hback := Ch.more_back hok' hlk' hTB hTB2 hH
  simp only at hback hsl
  rw [hback, hm.out] at hsl
  have hnew := fun (u v : Nat) (hu : u < n.toNat) (hv : v < n.toNat) => Ch.more_bound hok' hlk' hTB hTB2 hH hu hv
  simp only at hnew
  obtain ⟨M, hMM⟩ : ∃ M, L ++ [(⟨f, t, z⟩ : Ch.Lk)] = M := ⟨_, rfl⟩
  rw [hMM] at hM hck2 hE2 hop2 hco hsl hTB2 hnew
  have HCo := Lib.hid fun (W : World) (xb : Nat) (x : Option Addr) (cx : Nat) (h : SX xb n x (m + 1) cx M W) => consistentS_any n x cx M k2 hE2.en W h.l
  have HT2 := Lib.hid fun (W : World) (xb : Nat) (x : Option Addr) (cx : Nat) (h : SX xb n x (m + 1) cx M W) => tight_any n x cx M k2 hE2.en W h.l
  have HSl := Lib.hid fun (W : World) (xb : Nat) (x : Option Addr) (cx : Nat) (h : SX xb n x (m + 1) cx M W) => slack_any n x cx M k2 (m : Int) hE2.en W h.l
  rw [hsl, hM] at HSl
  rw [show Ch.consE n M k2 = (true, 0) by unfold Ch.consE; rw [if_neg (by omega), hco], hM] at HCo
  rw [hop2, hM] at HT2
  have ed : tightB n L k = Ch.tb n L k := rfl
  have ed2 : tightB n M k2 = Ch.tb n M k2 := rfl
  rw [ed] at HTi
  rw [ed2] at HT2
  obtain ⟨D, hD⟩ : ∃ D, Ch.tb n L k = D := ⟨_, rfl⟩
  obtain ⟨E, hEE⟩ : ∃ E, Ch.tb n M k2 = E := ⟨_, rfl⟩
  rw [hD] at HTi hTB hiff hsl HSl hback hH hnew hbk
  rw [hEE] at HT2 hnew hTB2
  obtain ⟨N, rfl⟩ : ∃ N : Nat, n = (N : Int) := ⟨n.toNat, by omega⟩
  obtain ⟨p, rfl⟩ : ∃ i : Nat, f = (i : Int) := ⟨f.toNat, by omega⟩
  obtain ⟨q, rfl⟩ : ∃ i : Nat, t = (i : Int) := ⟨t.toNat, by omega⟩
  simp only [Int.toNat_natCast] at *
  have hp : p < N := by omega
  have hq : q < N := by omega
  obtain ⟨bk1, bk2⟩ := hTB.range hq hp
  obtain ⟨bk, hbk0⟩ : ∃ b, D q p = b := ⟨_, rfl⟩
  rw [hbk0] at hiff bk1 bk2 HSl hH hbk
  have i1 : (p : Int) < (N : Int) := by omega
  have i2 : (q : Int) < (N : Int) := by omega
  have g1 : decide ((p : Int) < 0) = false := decide_eq_false (by omega)
  have g2 : decide ((q : Int) < 0) = false := decide_eq_false (by omega)
  have g3 : decide ((N : Int) ≤ (p : Int)) = false := decide_eq_false (by omega)
  have g4 : decide ((N : Int) ≤ (q : Int)) = false := decide_eq_false (by omega)
  have g5 : decide (N ≤ p) = false := decide_eq_false (by omega)
  have g6 : decide (N ≤ q) = false := decide_eq_false (by omega)
  have g7 : ¬ N ≤ p := by omega
  have g8 : ¬ N ≤ q := by omega
  replace hTB := Lib.hid hTB
  replace hMM := Lib.hid hMM
  replace hM := Lib.hid hM
  replace hM2 := Lib.hid hM2
  replace hbk0 := Lib.hid hbk0
  subst hbk
  replace hnew := Lib.hid hnew
  clear hiff bk1 bk2 hsl hback hH
  rw [if_pos (show (1152921504606846976 : Int) = Ch.free from rfl)] at HSl
  unfold sysV at *
  clear hE hE2 hop hwe hop2 hco hck hck2 hokk hok' hlk hlk' hsol ed ed2 hD hEE hop3
  go_enter Try.func9, Try.ntmps9
  go_wp2_with fail
  refine (HSm.out _).mono ?_
  rintro e w1 ⟨rfl, hb⟩
  have hB0 : Below w.heap.size w ((w.alloc (Obj.cells #[.int .i64 (N : Int), .slice a m cap] 24)).alloc (Obj.cells #[.int .i64 (p : Int), .int .i64 (q : Int), .int .i64 z] 63)) := below_alloc (below_alloc (Below.refl _ _) _) _
  have hB1 := hB0.trans (hb.mono hB0.size)
  have hJ := Lib.hid (MO.mk (w := w) (n := (N : Int)) (a := a) (m := m) (cap := cap) (L := L) (f := (p : Int)) (t := (q : Int)) (z := z) (W := w1) (SB.mk (w := w) (n := (N : Int)) (a := a) (m := m) (cap := cap) (W := w1) (kept1 (cell_alloc (by simp [go_sem]) _) hb) (kept1 (cell_alloc (by simp [go_sem]) _) hb) (hL.out.below hB1) hB1) (kept1 (by simp [go_sem]) hb) (kept1 (by simp [go_sem]) hb) (kept1 (by simp [go_sem]) hb))
  clear hb hB0 hB1 HSm hsm hL
  have k0 := hJ.out.s.c0
  have k1 := hJ.out.s.c1
  have l0 := hJ.out.l0
  have l1 := hJ.out.l1
  have l2 := hJ.out.l2
  go_wp2_with fail
  refine (HTi.out _ hJ.out).mono ?_
  rintro e w2 ⟨hb, h⟩
  obtain ⟨_, ob, S0, _, _, rfl, ho, hr⟩ := h.resolve_left (fun h => h.1 rfl)
  have hJ2 := Lib.hid (hJ.out.below hb)
  have hT2 := Lib.hid (TBL.mk (D := D) ho hr)
  clear hb hJ k0 k1 l0 l1 l2 HTi h ho hr
  have k0 := hJ2.out.s.c0
  have k1 := hJ2.out.s.c1
  have l0 := hJ2.out.l0
  have l1 := hJ2.out.l1
  have l2 := hJ2.out.l2
  have hl2 := Lib.hid (lks_one w2 (p : Int) (q : Int) z)
  have hb := (Below.refl w2.heap.size w2).alloc (Nat.le_refl _) (Obj.cells #[.int .i64 (p : Int), .int .i64 (q : Int), .int .i64 z] 63)
  have hJq := Lib.hid (hJ2.out.below hb)
  have hTq := Lib.hid (hT2.out.below hb)
  clear hb
  go_wp2_with fail
  refine (HWi.out _ _ _ (fun h => by cases h) hJq.out hl2.out).mono ?_
  rintro e w3 ⟨kk, vv, rfl, _, hx2, hb⟩
  obtain ⟨hn9, hown⟩ := hx2 rfl
  subst kk
  rw [hMM.out, hM2.out, ← hM.out] at hown
  obtain ⟨px, cx, hv2, hK2⟩ := lks_of_owns hown
  rw [hM.out] at hv2
  subst hv2
  have hA3 : Below w3.heap.size w3 (w3.alloc (Obj.cells #[.int .i64 (N : Int), .slice px (m + 1) cx] 24)) := (Below.refl _ _).alloc (Nat.le_refl _) _
  have hJ3 := Lib.hid ((hJq.out.below hb).below hA3)
  have hT3 := Lib.hid ((hTq.out.below hb).below hA3)
  have hX3 : Hid (SX w3.heap.size (N : Int) px (m + 1) cx M (w3.alloc (Obj.cells #[.int .i64 (N : Int), .slice px (m + 1) cx] 24))) := Lib.hid ⟨by simp [go_sem], by simp [go_sem], hK2.below hA3⟩
  clear hb hJ2 hT2 hJq hTq hl2 k0 k1 l0 l1 l2 HWi hx2 hown hK2 hA3
  have k0 := hJ3.out.s.c0
  have k1 := hJ3.out.s.c1
  have l0 := hJ3.out.l0
  have l1 := hJ3.out.l1
  have l2 := hJ3.out.l2
  have x0 := hX3.out.c0
  have x1 := hX3.out.c1
  have e0 := hT3.out.row hq
  go_upto_region 7 with fail
  generalize w3.alloc (Obj.cells #[.int .i64 (N : Int), .slice px (m + 1) cx] 24) = W3 at *
  generalize w3.heap.size = xb at *
  go_quiet (fail)
  have hb := below_drewN (Below.refl W3.heap.size W3) nq
  have hJ4 := Lib.hid (hJ3.out.below hb)
  have hX4 := Lib.hid (hX3.out.below hb)
  have hT4 := Lib.hid (hT3.out.below hb)
  clear hb hJ3 hX3 hT3 k0 k1 l0 l1 l2 x0 x1 e0
  generalize W3.drewN nq = w4 at *
  have k0 := hJ4.out.s.c0
  have k1 := hJ4.out.s.c1
  have l0 := hJ4.out.l0
  have l1 := hJ4.out.l1
  have l2 := hJ4.out.l2
  have x0 := hX4.out.c0
  have x1 := hX4.out.c1
  go_wp2_with fail
  refine (HCo.out _ _ _ _ hX4.out).mono ?_
  rintro e w5 ⟨rfl, hb⟩
  have hJ5 := Lib.hid (hJ4.out.below hb)
  have hX5 := Lib.hid (hX4.out.below hb)
  have hT5 := Lib.hid (hT4.out.below hb)
  clear hb hJ4 hX4 hT4 k0 k1 l0 l1 l2 x0 x1 HCo
  have k0 := hJ5.out.s.c0
  have k1 := hJ5.out.s.c1
  have l0 := hJ5.out.l0
  have l1 := hJ5.out.l1
  have l2 := hJ5.out.l2
  have x0 := hX5.out.c0
  have x1 := hX5.out.c1
  have e0 := hT5.out.row hq
  have e1 := (by have h := hT5.out.get hq hp; rw [hbk0.out] at h; exact h : w5.cell? ⟨S0 + q, p, none⟩ = some (.int .i64 1152921504606846976))
  go_upto_region 10 with fail
  go_quiet (fail)
  have hb := below_drewN (Below.refl w5.heap.size w5) nq
  have hJ6 := Lib.hid (hJ5.out.below hb)
  have hX6 := Lib.hid (hX5.out.below hb)
  have hT6 := Lib.hid (hT5.out.below hb)
  clear hb hJ5 hX5 hT5 k0 k1 l0 l1 l2 x0 x1 e0 e1
  generalize w5.drewN nq = w6 at *
  have k0 := hJ6.out.s.c0
  have k1 := hJ6.out.s.c1
  have l0 := hJ6.out.l0
  have l1 := hJ6.out.l1
  have l2 := hJ6.out.l2
  have x0 := hX6.out.c0
  have x1 := hX6.out.c1
  go_wp2_with fail
  refine (HT2.out _ _ _ _ hX6.out).mono ?_
  rintro e w7 ⟨hb, h⟩
  obtain ⟨_, ob2, S2, _, _, rfl, ho, hr⟩ := h.resolve_left (fun h => h.1 rfl)
  have hJ7 := Lib.hid (hJ6.out.below hb)
  have hX7 := Lib.hid (hX6.out.below hb)
  have hT7 := Lib.hid (hT6.out.below hb)
  have hU7 := Lib.hid (TBL.mk (D := E) ho hr)
  clear hb hJ6 hX6 hT6 k0 k1 l0 l1 l2 x0 x1 HT2 h ho hr
  by_cases hu0 : u < 0
  · have k0 := hJ7.out.s.c0
    have k1 := hJ7.out.s.c1
    have l0 := hJ7.out.l0
    have l1 := hJ7.out.l1
    have l2 := hJ7.out.l2
    have x0 := hX7.out.c0
    have x1 := hX7.out.c1
    go_wp2_with fail
    refine (HSa.out _).mono ?_
    rintro e w99 ⟨rfl, hb⟩
    have hB := hJ7.out.s.b.trans (hb.mono hJ7.out.s.b.size)
    clear hb k0 k1 l0 l1 l2 x0 x1 hJ7 hX7 hT7 hU7
    go_wp2
    go_ret
    exact ⟨rfl, hB⟩
  · have hu1 : ¬ u < 0 := hu0
    by_cases hu2 : (N : Int) ≤ u
    · have k0 := hJ7.out.s.c0
      have k1 := hJ7.out.s.c1
      have l0 := hJ7.out.l0
      have l1 := hJ7.out.l1
      have l2 := hJ7.out.l2
      have x0 := hX7.out.c0
      have x1 := hX7.out.c1
      go_wp2_with fail
      refine (HSa.out _).mono ?_
      rintro e w99 ⟨rfl, hb⟩
      have hB := hJ7.out.s.b.trans (hb.mono hJ7.out.s.b.size)
      clear hb k0 k1 l0 l1 l2 x0 x1 hJ7 hX7 hT7 hU7
      go_wp2
      go_ret
      exact ⟨rfl, hB⟩
    · by_cases hv0 : v < 0
      · have k0 := hJ7.out.s.c0
        have k1 := hJ7.out.s.c1
        have l0 := hJ7.out.l0
        have l1 := hJ7.out.l1
        have l2 := hJ7.out.l2
        have x0 := hX7.out.c0
        have x1 := hX7.out.c1
        go_wp2_with fail
        refine (HSa.out _).mono ?_
        rintro e w99 ⟨rfl, hb⟩
        have hB := hJ7.out.s.b.trans (hb.mono hJ7.out.s.b.size)
        clear hb k0 k1 l0 l1 l2 x0 x1 hJ7 hX7 hT7 hU7
        go_wp2
        go_ret
        exact ⟨rfl, hB⟩
      · by_cases hv2 : (N : Int) ≤ v
        · have k0 := hJ7.out.s.c0
          have k1 := hJ7.out.s.c1
          have l0 := hJ7.out.l0
          have l1 := hJ7.out.l1
          have l2 := hJ7.out.l2
          have x0 := hX7.out.c0
          have x1 := hX7.out.c1
          go_wp2_with fail
          refine (HSa.out _).mono ?_
          rintro e w99 ⟨rfl, hb⟩
          have hB := hJ7.out.s.b.trans (hb.mono hJ7.out.s.b.size)
          clear hb k0 k1 l0 l1 l2 x0 x1 hJ7 hX7 hT7 hU7
          go_wp2
          go_ret
          exact ⟨rfl, hB⟩
        · obtain ⟨i, rfl⟩ : ∃ i : Nat, u = (i : Int) := ⟨u.toNat, by omega⟩
          obtain ⟨j, rfl⟩ : ∃ i : Nat, v = (i : Int) := ⟨v.toNat, by omega⟩
          have hi : i < N := by omega
          have hj : j < N := by omega
          have i3 : (i : Int) < (N : Int) := by omega
          have i4 : (j : Int) < (N : Int) := by omega
          have hE9 := hnew.out i j hi hj
          obtain ⟨d1, d2⟩ := hTB.out.range hi hj
          obtain ⟨a1, a2⟩ := hTB.out.range hi hp
          obtain ⟨b1, b2⟩ := hTB.out.range hq hj
          obtain ⟨dx, hdx⟩ : ∃ x, D i j = x := ⟨_, rfl⟩
          obtain ⟨ax, hax⟩ : ∃ x, D i p = x := ⟨_, rfl⟩
          obtain ⟨bx, hbx⟩ : ∃ x, D q j = x := ⟨_, rfl⟩
          obtain ⟨ex, hex⟩ : ∃ x, E i j = x := ⟨_, rfl⟩
          rw [hdx, hax, hbx, hex] at hE9
          rw [hdx] at d1 d2
          rw [hax] at a1 a2
          rw [hbx] at b1 b2
          replace hdx := Lib.hid hdx
          replace hax := Lib.hid hax
          replace hbx := Lib.hid hbx
          replace hex := Lib.hid hex
          replace hE9 := Lib.hid hE9
          by_cases c1 : ax < 1152921504606846976
          · by_cases c2 : bx < 1152921504606846976
            · have a3 : ax ≤ 265712378014859264 := by omega
              have b3 : bx ≤ 265712378014859264 := by omega
              have hex2 : ex = min dx (ax + z + bx) := by have h := hE9.out; rw [if_pos ⟨c1, c2⟩] at h; exact h
              have hsm2 : (ex == min dx (ax + z + bx)) = true := by rw [beq_iff_eq]; exact hex2
              have d3 : dx ≤ 1152921504606846976 := by omega
              clear hE9 a2 b2 d2
              have k0 := hJ7.out.s.c0
              have k1 := hJ7.out.s.c1
              have l0 := hJ7.out.l0
              have l1 := hJ7.out.l1
              have l2 := hJ7.out.l2
              have x0 := hX7.out.c0
              have x1 := hX7.out.c1
              have e0 := hT7.out.row hi
              have e1 := hT7.out.row hq
              have e2 := (by have h := hT7.out.get hi hj; rw [hdx.out] at h; exact h : w7.cell? ⟨S0 + i, j, none⟩ = some (.int .i64 dx))
              have e3 := (by have h := hT7.out.get hi hp; rw [hax.out] at h; exact h : w7.cell? ⟨S0 + i, p, none⟩ = some (.int .i64 ax))
              have e4 := (by have h := hT7.out.get hq hj; rw [hbx.out] at h; exact h : w7.cell? ⟨S0 + q, j, none⟩ = some (.int .i64 bx))
              go_upto_region 21 with fail
              go_quiet (fail)
              have hb := below_drewN (Below.refl w7.heap.size w7) nq
              have hJ8 := Lib.hid (hJ7.out.below hb)
              have hX8 := Lib.hid (hX7.out.below hb)
              have hT8 := Lib.hid (hT7.out.below hb)
              have hU8 := Lib.hid (hU7.out.below hb)
              clear hb hJ7 hX7 hT7 hU7 k0 k1 l0 l1 l2 x0 x1 e0 e1 e2 e3 e4
              generalize w7.drewN nq = w8 at *
              have k0 := hJ8.out.s.c0
              have k1 := hJ8.out.s.c1
              have l0 := hJ8.out.l0
              have l1 := hJ8.out.l1
              have l2 := hJ8.out.l2
              have x0 := hX8.out.c0
              have x1 := hX8.out.c1
              have e0 := hT8.out.row hi
              have e1 := hT8.out.row hq
              have e2 := (by have h := hT8.out.get hi hj; rw [hdx.out] at h; exact h : w8.cell? ⟨S0 + i, j, none⟩ = some (.int .i64 dx))
              have e3 := (by have h := hT8.out.get hi hp; rw [hax.out] at h; exact h : w8.cell? ⟨S0 + i, p, none⟩ = some (.int .i64 ax))
              have e4 := (by have h := hT8.out.get hq hj; rw [hbx.out] at h; exact h : w8.cell? ⟨S0 + q, j, none⟩ = some (.int .i64 bx))
              go_upto_region 22 with fail
              go_quiet (fail)
              have hb := below_drewN (Below.refl w8.heap.size w8) nq
              have hJ9 := Lib.hid (hJ8.out.below hb)
              have hX9 := Lib.hid (hX8.out.below hb)
              have hT9 := Lib.hid (hT8.out.below hb)
              have hU9 := Lib.hid (hU8.out.below hb)
              clear hb hJ8 hX8 hT8 hU8 k0 k1 l0 l1 l2 x0 x1 e0 e1 e2 e3 e4
              generalize w8.drewN nq = w9 at *
              have k0 := hJ9.out.s.c0
              have k1 := hJ9.out.s.c1
              have l0 := hJ9.out.l0
              have l1 := hJ9.out.l1
              have l2 := hJ9.out.l2
              have x0 := hX9.out.c0
              have x1 := hX9.out.c1
              go_wp2_with fail
              refine (HSl.out _ _ _ _ hX9.out).mono ?_
              rintro e w10 ⟨rfl, hb⟩
              have hJ10 := Lib.hid (hJ9.out.below hb)
              have hX10 := Lib.hid (hX9.out.below hb)
              have hT10 := Lib.hid (hT9.out.below hb)
              have hU10 := Lib.hid (hU9.out.below hb)
              clear hb hJ9 hX9 hT9 hU9 k0 k1 l0 l1 l2 x0 x1
              have k0 := hJ10.out.s.c0
              have k1 := hJ10.out.s.c1
              have l0 := hJ10.out.l0
              have l1 := hJ10.out.l1
              have l2 := hJ10.out.l2
              have x0 := hX10.out.c0
              have x1 := hX10.out.c1
              go_wp2_with fail
              refine (HSa.out _).mono ?_
              rintro e w11 ⟨rfl, hb⟩
              have hJ11 := Lib.hid (hJ10.out.below hb)
              have hU11 := Lib.hid (hU10.out.below hb)
              clear hb hJ10 hX10 hT10 hU10 k0 k1 l0 l1 l2 x0 x1
              have e0 := hU11.out.row hi
              have e1 : w11.cell? ⟨S2 + i, j, none⟩ = some (.int .i64 ex) := by have h := hU11.out.get hi hj; rw [hex.out] at h; exact h
              have hB := hJ11.out.s.b
              clear hU11 hJ11
              go_wp2
              go_ret
              exact ⟨rfl, hB⟩
            · have hex2 : ex = dx := by have h := hE9.out; rw [if_neg (fun h => c2 h.2)] at h; exact h
              have hsm2 : (ex == dx) = true := by rw [beq_iff_eq]; exact hex2
              have c3 : decide (bx < 1152921504606846976) = false := decide_eq_false c2
              clear hE9 a2 b2 d2
              have k0 := hJ7.out.s.c0
              have k1 := hJ7.out.s.c1
              have l0 := hJ7.out.l0
              have l1 := hJ7.out.l1
              have l2 := hJ7.out.l2
              have x0 := hX7.out.c0
              have x1 := hX7.out.c1
              have e0 := hT7.out.row hi
              have e1 := hT7.out.row hq
              have e2 := (by have h := hT7.out.get hi hj; rw [hdx.out] at h; exact h : w7.cell? ⟨S0 + i, j, none⟩ = some (.int .i64 dx))
              have e3 := (by have h := hT7.out.get hi hp; rw [hax.out] at h; exact h : w7.cell? ⟨S0 + i, p, none⟩ = some (.int .i64 ax))
              have e4 := (by have h := hT7.out.get hq hj; rw [hbx.out] at h; exact h : w7.cell? ⟨S0 + q, j, none⟩ = some (.int .i64 bx))
              go_upto_region 21 with fail
              go_quiet (fail)
              have hb := below_drewN (Below.refl w7.heap.size w7) nq
              have hJ8 := Lib.hid (hJ7.out.below hb)
              have hX8 := Lib.hid (hX7.out.below hb)
              have hT8 := Lib.hid (hT7.out.below hb)
              have hU8 := Lib.hid (hU7.out.below hb)
              clear hb hJ7 hX7 hT7 hU7 k0 k1 l0 l1 l2 x0 x1 e0 e1 e2 e3 e4
              generalize w7.drewN nq = w8 at *
              have k0 := hJ8.out.s.c0
              have k1 := hJ8.out.s.c1
              have l0 := hJ8.out.l0
              have l1 := hJ8.out.l1
              have l2 := hJ8.out.l2
              have x0 := hX8.out.c0
              have x1 := hX8.out.c1
              go_wp2_with fail
              refine (HSl.out _ _ _ _ hX8.out).mono ?_
              rintro e w10 ⟨rfl, hb⟩
              have hJ10 := Lib.hid (hJ8.out.below hb)
              have hX10 := Lib.hid (hX8.out.below hb)
              have hT10 := Lib.hid (hT8.out.below hb)
              have hU10 := Lib.hid (hU8.out.below hb)
              clear hb hJ8 hX8 hT8 hU8 k0 k1 l0 l1 l2 x0 x1
              have k0 := hJ10.out.s.c0
              have k1 := hJ10.out.s.c1
              have l0 := hJ10.out.l0
              have l1 := hJ10.out.l1
              have l2 := hJ10.out.l2
              have x0 := hX10.out.c0
              have x1 := hX10.out.c1
              go_wp2_with fail
              refine (HSa.out _).mono ?_
              rintro e w11 ⟨rfl, hb⟩
              have hJ11 := Lib.hid (hJ10.out.below hb)
              have hU11 := Lib.hid (hU10.out.below hb)
              clear hb hJ10 hX10 hT10 hU10 k0 k1 l0 l1 l2 x0 x1
              have e0 := hU11.out.row hi
              have e1 : w11.cell? ⟨S2 + i, j, none⟩ = some (.int .i64 ex) := by have h := hU11.out.get hi hj; rw [hex.out] at h; exact h
              have hB := hJ11.out.s.b
              clear hU11 hJ11
              go_wp2
              go_ret
              exact ⟨rfl, hB⟩
          · have hex2 : ex = dx := by have h := hE9.out; rw [if_neg (fun h => c1 h.1)] at h; exact h
            have hsm2 : (ex == dx) = true := by rw [beq_iff_eq]; exact hex2
            have c3 : decide (ax < 1152921504606846976) = false := decide_eq_false c1
            clear hE9 a2 b2 d2
            have k0 := hJ7.out.s.c0
            have k1 := hJ7.out.s.c1
            have l0 := hJ7.out.l0
            have l1 := hJ7.out.l1
            have l2 := hJ7.out.l2
            have x0 := hX7.out.c0
            have x1 := hX7.out.c1
            have e0 := hT7.out.row hi
            have e1 := hT7.out.row hq
            have e2 := (by have h := hT7.out.get hi hj; rw [hdx.out] at h; exact h : w7.cell? ⟨S0 + i, j, none⟩ = some (.int .i64 dx))
            have e3 := (by have h := hT7.out.get hi hp; rw [hax.out] at h; exact h : w7.cell? ⟨S0 + i, p, none⟩ = some (.int .i64 ax))
            have e4 := (by have h := hT7.out.get hq hj; rw [hbx.out] at h; exact h : w7.cell? ⟨S0 + q, j, none⟩ = some (.int .i64 bx))
            go_upto_region 21 with fail
            go_quiet (fail)
            have hb := below_drewN (Below.refl w7.heap.size w7) nq
            have hJ8 := Lib.hid (hJ7.out.below hb)
            have hX8 := Lib.hid (hX7.out.below hb)
            have hT8 := Lib.hid (hT7.out.below hb)
            have hU8 := Lib.hid (hU7.out.below hb)
            clear hb hJ7 hX7 hT7 hU7 k0 k1 l0 l1 l2 x0 x1 e0 e1 e2 e3 e4
            generalize w7.drewN nq = w8 at *
            have k0 := hJ8.out.s.c0
            have k1 := hJ8.out.s.c1
            have l0 := hJ8.out.l0
            have l1 := hJ8.out.l1
            have l2 := hJ8.out.l2
            have x0 := hX8.out.c0
            have x1 := hX8.out.c1
            go_wp2_with fail
            refine (HSl.out _ _ _ _ hX8.out).mono ?_
            rintro e w10 ⟨rfl, hb⟩
            have hJ10 := Lib.hid (hJ8.out.below hb)
            have hX10 := Lib.hid (hX8.out.below hb)
            have hT10 := Lib.hid (hT8.out.below hb)
            have hU10 := Lib.hid (hU8.out.below hb)
            clear hb hJ8 hX8 hT8 hU8 k0 k1 l0 l1 l2 x0 x1
            have k0 := hJ10.out.s.c0
            have k1 := hJ10.out.s.c1
            have l0 := hJ10.out.l0
            have l1 := hJ10.out.l1
            have l2 := hJ10.out.l2
            have x0 := hX10.out.c0
            have x1 := hX10.out.c1
            go_wp2_with fail
            refine (HSa.out _).mono ?_
            rintro e w11 ⟨rfl, hb⟩
            have hJ11 := Lib.hid (hJ10.out.below hb)
            have hU11 := Lib.hid (hU10.out.below hb)
            clear hb hJ10 hX10 hT10 hU10 k0 k1 l0 l1 l2 x0 x1
            have e0 := hU11.out.row hi
            have e1 : w11.cell? ⟨S2 + i, j, none⟩ = some (.int .i64 ex) := by have h := hU11.out.get hi hj; rw [hex.out] at h; exact h
            have hB := hJ11.out.s.b
            clear hU11 hJ11
            go_wp2
            go_ret
            exact ⟨rfl, hB⟩
end Go.Proofs.Ytpddjofmiakpbaa
