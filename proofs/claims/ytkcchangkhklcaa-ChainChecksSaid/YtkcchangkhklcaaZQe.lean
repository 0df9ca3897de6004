/- Contracts of the specification: Chain. -/
import Derived.Test.YtkcchangkhklcaaZQd
import Derived.Test.YtkcchangkhklcaaZFq
import Derived.Test.YtkcchangkhklcaaZYs
import Derived.Deep.RegionHeld3
set_option linter.unusedSimpArgs false
set_option linter.unusedVariables false
namespace Go.Proofs.Ytkcchangkhklcaa
open Go.RowKit

theorem keepG4 {W W' : World} {p0 p1 p2 p3 : Addr} {x0 x1 x2 x3 : Value} (h : W.cell? p0 = some x0 ∧ W.cell? p1 = some x1 ∧ W.cell? p2 = some x2 ∧ W.cell? p3 = some x3) (hb : Below W.heap.size W W') : W'.cell? p0 = some x0 ∧ W'.cell? p1 = some x1 ∧ W'.cell? p2 = some x2 ∧ W'.cell? p3 = some x3 := ⟨kept1 h.1 hb, kept1 h.2.1 hb, kept1 h.2.2.1 hb, kept1 h.2.2.2 hb⟩
set_option linter.unusedSimpArgs false in
set_option maxRecDepth 100000 in
set_option maxHeartbeats 16000000 in
theorem rchain_any (n : Int) (a : Option Addr) (m cap : Nat) (L : List Ch.Lk) (hm : Hid (L.length = m)) (k : Nat) (hE : Ch.EN n L k) (u v : Int) (l : List Nat) (hch : Ch.chain n L k u v = some (l, 0)) (ob dc : Nat) (R2 : Nat → Nat) (w : World) (hL : Hid (LksAt w a L)) (hU : Hid (TB2 n.toNat ob R2 (Ch.tb n L k) w)) :
    Calls Try.prog 22 #[sysV n a m cap, .slice (some ⟨ob, 0, none⟩) n.toNat dc, .int .i64 u, .int .i64 v] w (RwlPost w l) := by
  obtain ⟨ho, _, _, j, hj, hj1, hj2, hj3⟩ := Ch.chain_parts hE hch
  obtain ⟨hck, hu, hv, _⟩ := Ch.opn_at hE ho
  obtain ⟨n1, n2, n3, hok⟩ := Ch.check_ok hck
  obtain ⟨_, _, hTB⟩ := Ch.tb_of hE (by rw [Ch.opn_nil hck, if_pos (Ch.opn_ok ho).2.2])
  have hrg := hTB.range (u := u.toNat) (v := v.toNat) (by omega) (by omega)
  have hTb := Lib.hid fun (W : World) (h : SB w n a m cap L W) => tables_any n a m cap L hm hck W (Lib.hid h.l)
  obtain ⟨N, rfl⟩ : ∃ N : Nat, n = (N : Int) := ⟨n.toNat, by omega⟩
  obtain ⟨p, rfl⟩ : ∃ p : Nat, u = (p : Int) := ⟨u.toNat, by omega⟩
  obtain ⟨q, rfl⟩ : ∃ q : Nat, v = (q : Int) := ⟨v.toNat, by omega⟩
  simp only [Int.toNat_natCast] at *
  have hp : p < N := by omega
  have hq : q < N := by omega
  have hsu := Lib.hid fun (x : Nat) (hx : x < N) => Ch.tabF_sums hok (k := x) (u := p) (v := q) (by omega) hp hq
  obtain ⟨b, hb9⟩ : ∃ b, Ch.tb N L k p q = b := ⟨_, rfl⟩
  rw [hb9] at hj1 hj2 hj3 hrg
  have hjb : b ≠ 1152921504606846976 := fun e => by
    obtain ⟨_, h2, h3⟩ := Ch.bound_some (Ch.chain_parts hE hch).2.1
    have h4 : Ch.tb N L k p q = (Ch.bt N L [] k q).getD p 0 := rfl
    simp only [Int.toNat_natCast] at h2
    rw [← h4, hb9] at h2
    exact h2 e
  have HW := Lib.hid fun (W : World) (tb tc : Nat) (O C : Nat → Nat) (R : Nat → Nat → Nat) (h1 : LksAt W a L) (h2 : TT N (N + 1) tb O C R (Ch.tabF L) W) => rwalk_any N (by omega) a m cap (by have := hm.out; omega) L hm (Lib.hid hok) (N + 1) tb tc O C R (by omega) j q (by omega) hq p b (by omega) (by omega) l (Lib.hid hj3) W (Lib.hid h1) (Lib.hid h2)
  replace hj1 := Lib.hid hj1
  replace hj2 := Lib.hid hj2
  replace hb9 := Lib.hid hb9
  unfold sysV at *
  clear hch hE hck hok ho hTB hj3 hrg
  go_enter Try.func22, Try.ntmps22
  have hJ := Lib.hid (SB.mk (w := w) (n := (N : Int)) (a := a) (m := m) (cap := cap) (W := w.alloc (Obj.cells #[.int .i64 (N : Int), .slice a m cap] 24)) (by simp [go_sem]) (by simp [go_sem]) (hL.out.below (below_alloc (Below.refl _ _) _)) (below_alloc (Below.refl _ _) _))
  have hU1 := Lib.hid (hU.out.below (below_alloc (Below.refl _ _) (Obj.cells #[.int .i64 (N : Int), .slice a m cap] 24)))
  clear hL hU
  go_wp2_with fail
  refine (hTb.out _ hJ.out).mono ?_
  rintro e w2 ⟨tb, tc, O, C, R, rfl, ht, hb⟩
  have hJ2 := Lib.hid (hJ.out.below hb)
  have hU2 := Lib.hid (hU1.out.below hb)
  replace ht := Lib.hid ht
  clear hJ hU1 hb hTb
  go_wp2
  go_loopw [10] (fun i wr => ∃ x : Nat, x ≤ j ∧ i = .int .i64 x ∧ Hid (Below w2.heap.size w2 wr)) (fun i _ => N + 1 - (RowKit.intOf i).toNat)
  case atStart => exact ⟨0, Nat.zero_le _, rfl, Lib.hid (Below.refl _ _)⟩
  case round =>
    obtain ⟨x, hx, rfl, hB⟩ := hrel
    have k0 := kept1 hJ2.out.c0 hB.out
    have hi5 : (x : Int) ≤ (N : Int) := by omega
    have hi6 : (0 : Int) ≤ (x : Int) := by omega
    have hi7 : (x : Int) < ((N : Int) + 1) := by omega
    have hi8 : x < N + 1 := by omega
    have hp0 : (0 : Int) ≤ (p : Int) := by omega
    have hq0 : (0 : Int) ≤ (q : Int) := by omega
    have hp1 : (p : Int) < (N : Int) := by omega
    have hq1 : (q : Int) < (N : Int) := by omega
    have hTx := ht.out.below hB.out
    have hUx := hU2.out.below hB.out
    have d0 := hTx.o x hi8
    have d1 := (hTx.t x hi8).o p hp
    have d2 := (hTx.t x hi8).get hp hq
    have d3 := hUx.o p hp
    have d4 := hUx.get hp hq
    rw [hb9.out] at d4
    rw [hsu.out x (by omega)] at d2
    obtain ⟨ox, hox⟩ : ∃ z, O x = z := ⟨_, rfl⟩
    obtain ⟨cx, hcx⟩ : ∃ z, C x = z := ⟨_, rfl⟩
    obtain ⟨rx, hrx⟩ : ∃ z, R x p = z := ⟨_, rfl⟩
    obtain ⟨rp, hrp⟩ : ∃ z, R2 p = z := ⟨_, rfl⟩
    rw [hox, hcx] at d0
    rw [hox, hrx] at d1
    rw [hrx] at d2
    rw [hrp] at d3 d4
    have HB2 := Lib.hid fun nq => hB.out.trans ((below_drewN (Below.refl wr.heap.size wr) nq).mono hB.out.size)
    clear hTx hUx hox hcx hrx hB
    by_cases hlt : x < j
    · have hne := hj2.out x hlt
      obtain ⟨y, hy⟩ : ∃ y, (Ch.sumsTo N L [] q x).getD p 0 = y := ⟨_, rfl⟩
      rw [hy] at d2 hne
      have hne2 : (y == b) = false := by rw [beq_eq_false_iff_ne]; exact hne
      clear hy hrp
      go_upto_region 5 with fail
      clear k0
      go_quiet (fail)
      have hB := Lib.hid (HB2.out nq)
      clear HB2 d0 d1 d2 d3 d4
      generalize wr.drewN nq = W at *
      go_wp2
      go_roundw
      case rel => exact ⟨x + 1, by omega, by go_num, hB⟩
      case measure => show N + 1 - ((x : Int) + 1).toNat < N + 1 - (x : Int).toNat; omega
    · obtain rfl : x = j := by omega
      rw [hj1.out] at d2
      have hne2 : (b == b) = true := by simp
      go_upto_region 5 with fail
      clear k0
      go_quiet (fail)
      have hB := Lib.hid (HB2.out nq)
      clear HB2 d0 d1 d2 d3 d4
      generalize wr.drewN nq = W at *
      have k0 := kept1 hJ2.out.c0 hB.out
      have k1 := kept1 hJ2.out.c1 hB.out
      have hUx := hU2.out.below hB.out
      have d3 := hUx.o p hp
      have d4 := hUx.get hp hq
      rw [hb9.out, hrp] at d4
      rw [hrp] at d3
      have HWk := Lib.hid (HW.out W.drew tb tc O C R ((hJ2.out.below hB.out).l.below (Below.refl _ _).drew) ((ht.out.below hB.out).below (Below.refl _ _).drew))
      have S0' : W.drew.cell? ⟨w.heap.size, 0, none⟩ = some (.int .i64 (N : Int)) ∧ W.drew.cell? ⟨w.heap.size, 1, none⟩ = some (.slice a m cap) ∧ W.drew.cell? ⟨ob, p, none⟩ = some (.slice (some ⟨rp, 0, none⟩) N N) ∧ W.drew.cell? ⟨rp, q, none⟩ = some (.int .i64 b) := ⟨k0, k1, d3, d4⟩
      have T3 := Lib.hid fun (W' : World) (hb : Below W.drew.heap.size W.drew W') => (hJ2.out.b.trans (hB.out.mono hJ2.out.b.size)).trans ((Below.trans (Below.refl W.heap.size W).drew hb).mono (hJ2.out.b.trans (hB.out.mono hJ2.out.b.size)).size)
      have T4 := Lib.hid (show w.heap.size ≤ W.drew.heap.size from (hJ2.out.b.trans (hB.out.mono hJ2.out.b.size)).size)
      clear k0 k1 d3 d4 hUx hrp hB
      go_upto_region 6 with fail
      go_region_held3 (fun w' => w'.cell? ⟨w.heap.size, 0, none⟩ = some (.int .i64 (N : Int)) ∧ w'.cell? ⟨w.heap.size, 1, none⟩ = some (.slice a m cap) ∧ w'.cell? ⟨ob, p, none⟩ = some (.slice (some ⟨rp, 0, none⟩) N N) ∧ w'.cell? ⟨rp, q, none⟩ = some (.int .i64 b))
        (first | with_reducible exact S0' | with_reducible exact keepG4 (by assumption) hbp)
        (first
        | (go_at_call 51
           with_reducible refine HWk.out.mono ?_
           rintro e wp1 ⟨v1, he, hown1, hbp⟩
           subst he
           skip))
      have hB := T3.out _ hbp
      have ho := owns_base (base' := w.heap.size) hown1 T4.out
      clear hbp hown1 T3 T4 HWk
      go_wp2
      go_ret
      exact ⟨_, rfl, ho, hB⟩

end Go.Proofs.Ytkcchangkhklcaa
