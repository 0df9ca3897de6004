/- Contracts of the specification: Sum, Node, Error, Numbers. -/
import Derived.Test.YtadopopnagmggaaZRc
import Derived.Test.YtadopopnagmggaaZRi
import Derived.Test.YtadopopnagmggaaZFi
import Derived.BigQuiet
set_option linter.unusedSimpArgs false
set_option linter.unusedVariables false
namespace Ch
/-- Sum of the specification -/
def sumR (L : List Lk) : List Int → Int → Int → Int × Int × Bool
  | [], s, u => (s, u, true)
  | i :: r, s, u => if isIx i L.length = true ∧ (L.getD i.toNat noLk).f = u then sumR L r (s + (L.getD i.toNat noLk).m) (L.getD i.toNat noLk).t else (0, 0, false)
theorem sumR_at {L : List Lk} {l : List Int} {k : Nat} {s u : Int} (h : k < l.length) : sumR L (l.drop k) s u = if isIx (l.getD k 0) L.length = true ∧ (L.getD (l.getD k 0).toNat noLk).f = u then sumR L (l.drop (k + 1)) (s + (L.getD (l.getD k 0).toNat noLk).m) (L.getD (l.getD k 0).toNat noLk).t else (0, 0, false) := by
  have e : l[k] = l.getD k 0 := by rw [List.getD, List.getElem?_eq_getElem h]; rfl
  rw [List.drop_eq_getElem_cons h, sumR, e]
end Ch
namespace Go.Proofs.Ytadopopnagmggaa
open Go.RowKit

theorem wrap_okR {z : Int} (h1 : -9223372036854775808 ≤ z) (h2 : z < 9223372036854775808) : IntKind.i64.wrap z = z := by
  rw [IntKind.wrap_i64]
  omega

set_option maxRecDepth 100000 in
set_option maxHeartbeats 4000000 in
theorem sum_any (n : Int) (a : Option Addr) (m cap : Nat) (b : Option Addr) (q cap2 : Nat) (L : List Ch.Lk) (l : List Int) (u0 : Int) (hm : Hid (L.length = m)) (hm9 : m ≤ 300) (hq : Hid (l.length = q)) (hq9 : q ≤ 90) (hok : Hid (∀ j, j < L.length → Ch.okLk n (L.getD j Ch.noLk) = true)) (w : World) (hL : Hid (LksAt w a L)) (hl : Hid (IntsAt w b l)) (R1 R2 : Int) (R3 : Bool) (hR : Hid (Ch.sumR L l 0 u0 = (R1, R2, R3))) :
    Calls Try.prog 22 #[.agg #[.int .i64 n, .slice a m cap], .int .i64 u0, .slice b q cap2] w fun e w' => e = .returned (.tuple #[.int .i64 R1, .int .i64 R2, .bool R3]) ∧ Below w.heap.size w w' := by
  go_enter Try.func22, Try.ntmps22
  go_wp2
  go_loopw [10, 9, 1] (fun i s u wr => ∃ (k : Nat) (z v : Int), k ≤ q ∧ i = .int .i64 k ∧ s = .int .i64 z ∧ u = .int .i64 v ∧ -(4503599627370496 * k) ≤ z ∧ z ≤ 4503599627370496 * k ∧ wr.cell? ⟨w.heap.size, 1, none⟩ = some (.slice a m cap) ∧ Below w.heap.size w wr ∧ w.heap.size < wr.heap.size ∧ Hid (Ch.sumR L (l.drop k) z v = (R1, R2, R3))) (fun i _ _ _ => q - (RowKit.intOf i).toNat)
  case atStart => exact ⟨0, 0, u0, Nat.zero_le _, rfl, rfl, rfl, by omega, by omega, by simp [go_sem], (by repeat (first | with_reducible exact Below.refl _ _ | with_reducible assumption | refine below_drewN ?_ _ | refine Below.drew ?_ | refine Below.alloc ?_ (by first | (simp; done) | (simp; omega) | omega) _ | refine Below.setCell ?_ (by first | (simp; done) | (simp; omega) | omega) _ | refine Below.trans ?_ (Below.mono (by assumption) (by first | (simp; done) | (simp; omega) | omega)))), by simp, hR⟩
  case round =>
    obtain ⟨k, s, u, hk, rfl, rfl, rfl, hs1, hs2, hn, hb, hsz, hsum⟩ := hrel
    by_cases hlt : k < q
    · obtain ⟨x, rfl, hcx⟩ := hl.out k (by have := hq.out; omega)
      have hc0 := (hb.cell (block_lt_of_cell hcx)).trans hcx
      have hst := Ch.sumR_at (L := L) (l := l) (k := k) (s := s) (u := u) (by have := hq.out; omega)
      rw [hsum.out, hm.out] at hst
      obtain ⟨z, hz⟩ : ∃ z, l.getD k 0 = z := ⟨_, rfl⟩
      rw [hz] at hc0 hst
      clear hcx hz
      have hi5 : (k : Int) < (q : Int) := by omega
      have hi6 : (0 : Int) ≤ (k : Int) := by omega
      have hbl := Lib.hid hb
      by_cases hz0 : z < 0
      · rw [if_neg (by rintro ⟨h, _⟩; unfold Ch.isIx at h; simp at h; omega)] at hst
        obtain ⟨rfl, h2⟩ := Prod.mk.inj hst
        obtain ⟨rfl, rfl⟩ := Prod.mk.inj h2
        clear hst h2 hsum hb hR
        go_upto_region 5 with fail
        go_quiet (fail)
        go_wp2
        go_ret3
        exact ⟨rfl, below_drewN hbl.out _⟩
      · have hz1 : 0 ≤ z := by omega
        have hz2 : decide (z < 0) = false := decide_eq_false hz0
        by_cases hzm : (m : Int) ≤ z
        · rw [if_neg (by rintro ⟨h, _⟩; unfold Ch.isIx at h; simp at h; omega)] at hst
          obtain ⟨rfl, h2⟩ := Prod.mk.inj hst
          obtain ⟨rfl, rfl⟩ := Prod.mk.inj h2
          clear hst h2 hsum hb hR
          go_upto_region 5 with fail
          go_quiet (fail)
          go_wp2
          go_ret3
          exact ⟨rfl, below_drewN hbl.out _⟩
        · obtain ⟨i, rfl⟩ : ∃ i : Nat, z = (i : Int) := ⟨z.toNat, by omega⟩
          have him : i < m := by omega
          have hL2 := hL.out i (by have := hm.out; omega)
          obtain ⟨y', hy', hl3⟩ := hL2
          subst hy'
          have ⟨g0, g1, g2⟩ := hl3.below hb
          have hok1 := Ch.okLk_spec (hok.out i (by have := hm.out; omega))
          simp only [Int.toNat_natCast] at hst
          obtain ⟨f, t, mo, hlk⟩ : ∃ f t mo, L.getD i Ch.noLk = ⟨f, t, mo⟩ := ⟨_, _, _, rfl⟩
          rw [hlk] at g0 g1 g2 hok1 hst
          simp only at g0 g1 g2 hok1 hst
          obtain ⟨_, _, _, _, _, o6, o7⟩ := hok1
          have hi7 : (0 : Int) ≤ (i : Int) := by omega
          have hi8 : (i : Int) < (m : Int) := by omega
          have hi9 : ¬ ((m : Int) ≤ (i : Int)) := by omega
          clear hl3 hlk
          by_cases hfu : f = u
          · subst hfu
            rw [if_pos ⟨by unfold Ch.isIx; simp; omega, rfl⟩] at hst
            replace hst := Lib.hid hst
            have hne : (f != f) = false := by simp
            have aw : IntKind.i64.wrap (s + mo) = s + mo := wrap_okR (by omega) (by omega)
            clear hsum hb
            go_upto_region 5 with fail
            go_quiet (fail)
            go_upto_region 7 with fail
            go_quiet (fail)
            go_upto_region 8 with fail
            go_quiet (fail)
            go_wp2
            go_roundw
            case rel => exact ⟨k + 1, s + mo, t, by omega, by go_num, by first | rfl | trivial, by first | rfl | trivial, by omega, by omega, hn, below_drewN hbl.out _, hsz, Lib.hid hst.out.symm⟩
            case measure => show q - ((k : Int) + 1).toNat < q - (k : Int).toNat; omega
          · rw [if_neg (by rintro ⟨_, h⟩; exact hfu h)] at hst
            obtain ⟨rfl, h2⟩ := Prod.mk.inj hst
            obtain ⟨rfl, rfl⟩ := Prod.mk.inj h2
            have hne : (f != u) = true := by rw [bne_iff_ne]; exact hfu
            clear hst h2 hsum hb hR
            go_upto_region 5 with fail
            go_quiet (fail)
            go_wp2
            go_ret3
            exact ⟨rfl, below_drewN hbl.out _⟩
    · obtain rfl : k = q := by omega
      have hi5 : ¬ (k : Int) < (k : Int) := by omega
      have hst := hsum.out
      rw [List.drop_eq_nil_of_le (by have := hq.out; omega), Ch.sumR] at hst
      obtain ⟨rfl, h2⟩ := Prod.mk.inj hst
      obtain ⟨rfl, rfl⟩ := Prod.mk.inj h2
      clear hst h2 hsum hR
      go_wp2
      go_ret3
      exact ⟨rfl, hb⟩

set_option maxRecDepth 100000 in
set_option maxHeartbeats 2000000 in
theorem node_any (n : Int) (a : Option Addr) (m cap : Nat) (u : Int) (b : Bool) (hb : Hid (Ch.isIx u n = b)) (w : World) :
    Calls Try.prog 23 #[sysV n a m cap, .int .i64 u] w fun e w' => e = .returned (.bool b) ∧ Below w.heap.size w w' := by
  unfold sysV
  by_cases h1 : 0 ≤ u
  · by_cases h2 : u < n
    · obtain rfl : true = b := by rw [← hb.out]; unfold Ch.isIx; simp [h1, h2]
      clear hb
      go_enter Try.func23, Try.ntmps23
      go_wp2
      go_ret
      exact ⟨rfl, (by repeat (first | with_reducible exact Below.refl _ _ | with_reducible assumption | refine below_drewN ?_ _ | refine Below.drew ?_ | refine Below.alloc ?_ (by first | (simp; done) | (simp; omega) | omega) _ | refine Below.setCell ?_ (by first | (simp; done) | (simp; omega) | omega) _ | refine Below.trans ?_ (Below.mono (by assumption) (by first | (simp; done) | (simp; omega) | omega))))⟩
    · obtain rfl : false = b := by rw [← hb.out]; unfold Ch.isIx; simp [h2]
      clear hb
      go_enter Try.func23, Try.ntmps23
      go_wp2
      go_ret
      exact ⟨rfl, (by repeat (first | with_reducible exact Below.refl _ _ | with_reducible assumption | refine below_drewN ?_ _ | refine Below.drew ?_ | refine Below.alloc ?_ (by first | (simp; done) | (simp; omega) | omega) _ | refine Below.setCell ?_ (by first | (simp; done) | (simp; omega) | omega) _ | refine Below.trans ?_ (Below.mono (by assumption) (by first | (simp; done) | (simp; omega) | omega))))⟩
  · obtain rfl : false = b := by rw [← hb.out]; unfold Ch.isIx; simp [h1]
    clear hb
    go_enter Try.func23, Try.ntmps23
    go_wp2
    go_ret
    exact ⟨rfl, (by repeat (first | with_reducible exact Below.refl _ _ | with_reducible assumption | refine below_drewN ?_ _ | refine Below.drew ?_ | refine Below.alloc ?_ (by first | (simp; done) | (simp; omega) | omega) _ | refine Below.setCell ?_ (by first | (simp; done) | (simp; omega) | omega) _ | refine Below.trans ?_ (Below.mono (by assumption) (by first | (simp; done) | (simp; omega) | omega))))⟩

set_option maxRecDepth 100000 in
set_option maxHeartbeats 4000000 in
theorem numbers_any (n : Int) (a : Option Addr) (m cap : Nat) (b : Option Addr) (q cap2 : Nat) (l : List Int) (hq : Hid (l.length = q)) (hq9 : q ≤ 1000) (R : Bool) (hR : Hid ((decide ((q : Int) = n) && !l.any Ch.far) = R)) (w : World) (hl : Hid (IntsAt w b l)) :
    Calls Try.prog 24 #[sysV n a m cap, .slice b q cap2] w fun e w' => e = .returned (.bool R) ∧ Below w.heap.size w w' := by
  unfold sysV
  go_enter Try.func24, Try.ntmps24
  go_wp2
  go_loopw [5] (fun i wr => ∃ k : Nat, k ≤ q ∧ i = .int .i64 k ∧ wr.cell? ⟨w.heap.size, 0, none⟩ = some (.int .i64 n) ∧ Below w.heap.size w wr ∧ w.heap.size < wr.heap.size ∧ Hid (l.any Ch.far = (l.drop k).any Ch.far)) (fun i _ => q - (RowKit.intOf i).toNat)
  case atStart => exact ⟨0, Nat.zero_le _, rfl, by simp [go_sem], (by repeat (first | with_reducible exact Below.refl _ _ | with_reducible assumption | refine below_drewN ?_ _ | refine Below.drew ?_ | refine Below.alloc ?_ (by first | (simp; done) | (simp; omega) | omega) _ | refine Below.setCell ?_ (by first | (simp; done) | (simp; omega) | omega) _ | refine Below.trans ?_ (Below.mono (by assumption) (by first | (simp; done) | (simp; omega) | omega)))), by simp, Lib.hid rfl⟩
  case round =>
    obtain ⟨k, hk, rfl, hn, hb, hsz, hall⟩ := hrel
    by_cases hlt : k < q
    · have hi5 : (k : Int) < (q : Int) := by omega
      have hi6 : (0 : Int) ≤ (k : Int) := by omega
      by_cases hkn : (k : Int) ≤ n
      · obtain ⟨x, rfl, hcx⟩ := hl.out k (by have := hq.out; omega)
        have hc0 := (hb.cell (block_lt_of_cell hcx)).trans hcx
        have hst := Ch.any_at (p := Ch.far) (l := l) (k := k) (by have := hq.out; omega)
        obtain ⟨z, hz⟩ : ∃ z, l.getD k 0 = z := ⟨_, rfl⟩
        rw [hz] at hc0 hst
        rw [← hall.out] at hst
        clear hcx hz
        by_cases h1 : z < -1152921504606846976
        · have hf : Ch.far z = true := by unfold Ch.far Ch.free; simp [h1]
          obtain rfl : R = false := by rw [← hR.out, hst, hf]; simp
          clear hst hall hf
          go_wp2
          go_ret
          exact ⟨rfl, hb⟩
        · by_cases h2 : 1152921504606846976 < z
          · have hf : Ch.far z = true := by unfold Ch.far Ch.free; simp [h2]
            obtain rfl : R = false := by rw [← hR.out, hst, hf]; simp
            clear hst hall hf
            go_wp2
            go_ret
            exact ⟨rfl, hb⟩
          · have hf : Ch.far z = false := by unfold Ch.far Ch.free; simp [h1, h2]
            rw [hf, Bool.false_or] at hst
            replace hst := Lib.hid hst
            clear hall hf
            go_wp2
            go_roundw
            case rel => exact ⟨k + 1, by omega, by go_num, hn, hb, hsz, hst⟩
            case measure => show q - ((k : Int) + 1).toNat < q - (k : Int).toNat; omega
      · have hne : ¬ (q : Int) = n := by omega
        have hne2 : ((q : Int) == n) = false := by rw [beq_eq_false_iff_ne]; exact hne
        obtain rfl : R = false := by rw [← hR.out]; simp [hne]
        clear hall
        go_wp2
        go_ret
        exact ⟨rfl, hb⟩
    · obtain rfl : k = q := by omega
      have hi5 : ¬ (k : Int) < (k : Int) := by omega
      have ha : l.any Ch.far = false := by rw [hall.out, List.drop_eq_nil_of_le (by have := hq.out; omega)]; rfl
      by_cases hne : (k : Int) = n
      · obtain rfl : R = true := by rw [← hR.out, ha]; simp [hne]
        have hne2 : ((k : Int) == n) = true := by rw [beq_iff_eq]; exact hne
        subst hne
        clear hall ha hR
        go_wp2
        go_ret
        exact ⟨rfl, hb⟩
      · obtain rfl : R = false := by rw [← hR.out]; simp [hne]
        have hne2 : ((k : Int) == n) = false := by rw [beq_eq_false_iff_ne]; exact hne
        clear hall ha hR
        go_wp2
        go_ret
        exact ⟨rfl, hb⟩

/-- Closed of the specification, of a list of indices -/
def closedR (L : List Ch.Lk) (l : List Int) : Bool := !l.isEmpty && ((Ch.sumR L l 0 (Ch.start L l)).2.2 && (Ch.sumR L l 0 (Ch.start L l)).2.1 == Ch.start L l && decide ((Ch.sumR L l 0 (Ch.start L l)).1 < 0))

set_option maxRecDepth 100000 in
set_option maxHeartbeats 4000000 in
theorem closed_any (n : Int) (a : Option Addr) (m cap : Nat) (b : Option Addr) (q cap2 : Nat) (L : List Ch.Lk) (l : List Int) (hm : Hid (L.length = m)) (hm9 : m ≤ 300) (hq : Hid (l.length = q)) (hq9 : q ≤ 90) (hok : Hid (∀ j, j < L.length → Ch.okLk n (L.getD j Ch.noLk) = true)) (hix : Hid (l.all (fun i => Ch.isIx i m) = true)) (w : World) (hL : Hid (LksAt w a L)) (hl : Hid (IntsAt w b l)) (R : Bool) (hR : Hid (closedR L l = R)) :
    Calls Try.prog 21 #[sysV n a m cap, .slice b q cap2] w fun e w' => e = .returned (.bool R) ∧ Below w.heap.size w w' := by
  have HI := Lib.hid fun (W : World) (hb : Below w.heap.size w W) => indices_any n a m cap b q cap2 l hq (by omega) true hix W (Lib.hid (hl.out.below hb))
  have HS := Lib.hid fun (W : World) (hb : Below w.heap.size w W) (u : Int) (R1 R2 : Int) (R3 : Bool) (hR : Ch.sumR L l 0 u = (R1, R2, R3)) => sum_any n a m cap b q cap2 L l u hm hm9 hq hq9 hok W (Lib.hid (hL.out.below hb)) (Lib.hid (hl.out.below hb)) R1 R2 R3 (Lib.hid hR)
  unfold sysV
  by_cases h0 : q = 0
  · subst h0
    have hl0 : l = [] := List.eq_nil_of_length_eq_zero hq.out
    subst hl0
    obtain rfl : false = R := hR.out
    clear hR HI HS
    go_enter Try.func21, Try.ntmps21
    go_wp2
    go_ret
    exact ⟨rfl, (by repeat (first | with_reducible exact Below.refl _ _ | with_reducible assumption | refine below_drewN ?_ _ | refine Below.drew ?_ | refine Below.alloc ?_ (by first | (simp; done) | (simp; omega) | omega) _ | refine Below.setCell ?_ (by first | (simp; done) | (simp; omega) | omega) _ | refine Below.trans ?_ (Below.mono (by assumption) (by first | (simp; done) | (simp; omega) | omega))))⟩
  · have hpos : (0 : Int) < (q : Int) := by omega
    have hne1 : ((q : Int) == 0) = false := by rw [beq_eq_false_iff_ne]; omega
    have hne2 : ¬ ((q : Int) = 0) := by omega
    obtain ⟨x, rfl, hcx⟩ := hl.out 0 (by have := hq.out; omega)
    have hi0 : Ch.isIx (l.getD 0 0) m = true := by
      have h := List.all_eq_true.1 hix.out (l.getD 0 0) (by rw [List.getD, List.getElem?_eq_getElem (by have := hq.out; omega)]; exact List.getElem_mem _)
      exact h
    have hst : Ch.start L l = (L.getD (l.getD 0 0).toNat Ch.noLk).f := rfl
    obtain ⟨z, hz⟩ : ∃ z, l.getD 0 0 = z := ⟨_, rfl⟩
    rw [hz] at hcx hi0 hst
    have hi1 : 0 ≤ z ∧ z < m := by unfold Ch.isIx at hi0; simpa using hi0
    obtain ⟨i, rfl⟩ : ∃ i : Nat, z = (i : Int) := ⟨z.toNat, by omega⟩
    obtain ⟨y, hy, hl3⟩ := hL.out i (by have := hm.out; omega)
    subst hy
    rw [Int.toNat_natCast] at hst
    obtain ⟨f, t, mo, hlk⟩ : ∃ f t mo, L.getD i Ch.noLk = ⟨f, t, mo⟩ := ⟨_, _, _, rfl⟩
    obtain ⟨q0, q1, q2⟩ := hl3
    rw [hlk] at q0 q1 q2 hst
    simp only at q0 hst
    have hR9 := hR.out
    unfold closedR at hR9
    rw [hst] at hR9
    obtain ⟨⟨R1, R2, R3⟩, hsum⟩ : ∃ r, Ch.sumR L l 0 f = r := ⟨_, rfl⟩
    have he : l.isEmpty = false := by cases l with | nil => exact absurd hq.out (by simp; omega) | cons _ _ => rfl
    rw [hsum, he] at hR9
    simp only [Bool.not_false, Bool.true_and] at hR9
    have hi5 : (0 : Int) ≤ (i : Int) := by omega
    have hi6 : (i : Int) < (m : Int) := by omega
    have hq1 : (0 : Nat) < q := by omega
    replace hsum := Lib.hid hsum
    replace hR9 := Lib.hid hR9
    have ex0 : x.add 0 = x := by unfold Addr.add; rfl
    rw [ex0] at hcx
    clear hR hz hst hlk he hi0 hi1 q1 q2 ex0
    go_enter Try.func21, Try.ntmps21
    go_wp2_with fail
    refine (HI.out _ (by repeat (first | with_reducible exact Below.refl _ _ | with_reducible assumption | refine below_drewN ?_ _ | refine Below.drew ?_ | refine Below.alloc ?_ (by first | (simp; done) | (simp; omega) | omega) _ | refine Below.setCell ?_ (by first | (simp; done) | (simp; omega) | omega) _ | refine Below.trans ?_ (Below.mono (by assumption) (by first | (simp; done) | (simp; omega) | omega))))).mono ?_
    rintro e w1 ⟨rfl, hb⟩
    have k0 : w1.cell? ⟨w.heap.size, 0, none⟩ = some (.int .i64 n) := kept1 (by simp [go_sem]) hb
    have k1 : w1.cell? ⟨w.heap.size, 1, none⟩ = some (.slice (some y) m cap) := kept1 (by simp [go_sem]) hb
    have hB1 := bstep1 (Below.refl _ _) hb
    have d0 := kept1 hcx hB1
    have d1 := kept1 q0 hB1
    have hbl := Lib.hid hB1
    clear hb HI hcx q0
    go_upto_region 3 with fail
    go_quiet (fail)
    go_wp2_with fail
    refine (HS.out _ (below_drewN hbl.out _) f R1 R2 R3 hsum.out).mono ?_
    rintro e w2 ⟨rfl, hb⟩
    have hB2 := Lib.hid ((below_drewN hbl.out _).trans (hb.mono (below_drewN hbl.out _).size))
    clear hb HS k0 k1 d0 d1 hsum
    cases R3
    · obtain rfl : false = R := hR9.out
      clear hR9
      go_wp2
      go_ret
      exact ⟨rfl, hB2.out⟩
    · by_cases h1 : R2 = f
      · have g1 : (R2 == f) = true := by rw [beq_iff_eq]; exact h1
        by_cases h2 : R1 < 0
        · obtain rfl : true = R := by rw [← hR9.out, g1]; simp [h2]
          subst h1
          clear hR9 g1
          go_wp2
          go_ret
          exact ⟨rfl, hB2.out⟩
        · obtain rfl : false = R := by rw [← hR9.out]; simp [h2]
          have h3 : decide (R1 < 0) = false := decide_eq_false h2
          subst h1
          clear hR9 g1
          go_wp2
          go_ret
          exact ⟨rfl, hB2.out⟩
      · have g1 : (R2 == f) = false := by rw [beq_eq_false_iff_ne]; exact h1
        obtain rfl : false = R := by rw [← hR9.out, g1]; simp
        clear hR9
        go_wp2
        go_ret
        exact ⟨rfl, hB2.out⟩
end Go.Proofs.Ytadopopnagmggaa
