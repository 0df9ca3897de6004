/- Contracts of the specification: Solves. -/
import Derived.Test.YtkcchangkhklcaaZ06
set_option linter.unusedSimpArgs false
set_option linter.unusedVariables false
namespace Go.Proofs.Ytkcchangkhklcaa
open Go.RowKit

set_option maxHeartbeats 400000 in
theorem rsolves_len (n : Int) (a : Option Addr) (m cap : Nat) (b : Option Addr) (q cap2 : Nat) (hq : ((q : Int) != n) = true) (w : World) :
    Calls Try.prog 23 #[.agg #[.int .i64 n, .slice a m cap], .slice b q cap2] w fun e w' => e = .returned (.bool false) ∧ Below w.heap.size w w' := by
  go_enter Try.func23, Try.ntmps23
  go_wp2
  go_ret
  exact ⟨rfl, (by repeat (first | with_reducible exact Below.refl _ _ | with_reducible assumption | refine below_drewN ?_ _ | refine Below.drew ?_ | refine Below.alloc ?_ (by first | (simp; done) | (simp; omega) | omega) _ | refine Below.setCell ?_ (by first | (simp; done) | (simp; omega) | omega) _ | refine Below.trans ?_ (Below.mono (by assumption) (by first | (simp; done) | (simp; omega) | omega))))⟩

set_option maxHeartbeats 400000 in
theorem rsolves_zero (n : Int) (a : Option Addr) (m cap : Nat) (x : Addr) (q cap2 : Nat) (q1 : (0 : Int) < (q : Int)) (hq : ((q : Int) != n) = false) (z : Int) (hz : (z != 0) = true) (w : World) (hc : w.cell? x = some (.int .i64 z)) :
    Calls Try.prog 23 #[.agg #[.int .i64 n, .slice a m cap], .slice (some x) q cap2] w fun e w' => e = .returned (.bool false) ∧ Below w.heap.size w w' := by
  have hxl := block_lt_of_cell hc
  go_enter Try.func23, Try.ntmps23
  go_wp2
  go_ret
  exact ⟨rfl, (by repeat (first | with_reducible exact Below.refl _ _ | with_reducible assumption | refine below_drewN ?_ _ | refine Below.drew ?_ | refine Below.alloc ?_ (by first | (simp; done) | (simp; omega) | omega) _ | refine Below.setCell ?_ (by first | (simp; done) | (simp; omega) | omega) _ | refine Below.trans ?_ (Below.mono (by assumption) (by first | (simp; done) | (simp; omega) | omega))))⟩

set_option maxRecDepth 100000 in
set_option maxHeartbeats 2000000 in
theorem rsolves_loop (n : Int) (n1 : 1 ≤ n) (a : Option Addr) (m cap : Nat) (L : List Ch.Lk) (hm : Hid (L.length = m)) (hm2 : m ≤ 300) (hok : Hid (∀ j, j < L.length → Ch.okLk n (L.getD j Ch.noLk) = true)) (x : Addr) (q cap2 : Nat) (l : List Int) (hlq : Hid (l.length = q)) (hqn : (q : Int) = n) (hfar : Hid (∀ k, k < l.length → -1152921504606846976 ≤ l.getD k 0 ∧ l.getD k 0 ≤ 1152921504606846976)) (w : World) (hz : w.cell? x = some (.int .i64 0)) (hL : Hid (LksAt w a L)) (hl : Hid (IntsAt w (some x) l)) (R : Bool) (hR : Hid (Ch.solves L l = R)) :
    Calls Try.prog 23 #[.agg #[.int .i64 n, .slice a m cap], .slice (some x) q cap2] w fun e w' => e = .returned (.bool R) ∧ Below w.heap.size w w' := by
  have hq : ((q : Int) != n) = false := by rw [hqn]; simp
  have q1 : (0 : Int) < (q : Int) := by omega
  have hxl := block_lt_of_cell hz
  go_enter Try.func23, Try.ntmps23
  go_wp2
  go_loopw [5] (fun i wr => ∃ k : Nat, k ≤ m ∧ i = .int .i64 k ∧ wr.cell? ⟨w.heap.size, 1, none⟩ = some (.slice a m cap) ∧ Below w.heap.size w wr ∧ w.heap.size < wr.heap.size ∧ Hid (Ch.solves L l = Ch.solves (L.drop k) l)) (fun i _ => m - (RowKit.intOf i).toNat)
  case atStart => exact ⟨0, Nat.zero_le _, rfl, by simp [go_sem], (by repeat (first | with_reducible exact Below.refl _ _ | with_reducible assumption | refine below_drewN ?_ _ | refine Below.drew ?_ | refine Below.alloc ?_ (by first | (simp; done) | (simp; omega) | omega) _ | refine Below.setCell ?_ (by first | (simp; done) | (simp; omega) | omega) _ | refine Below.trans ?_ (Below.mono (by assumption) (by first | (simp; done) | (simp; omega) | omega)))), by simp, Lib.hid rfl⟩
  case round =>
    obtain ⟨k, hk, rfl, hn, hb, hsz, hsol⟩ := hrel
    clear hz hxl
    by_cases hlt : k < m
    · obtain ⟨y, rfl, hl3⟩ := hL.out k (by have := hm.out; omega)
      have hok1 := Ch.okLk_spec (hok.out k (by have := hm.out; omega))
      have hst := Ch.solves_at (L := L) (x := l) (k := k) (by have := hm.out; omega)
      obtain ⟨f, t, mo, hlk⟩ : ∃ f t mo, L.getD k Ch.noLk = ⟨f, t, mo⟩ := ⟨_, _, _, rfl⟩
      have ⟨g0, g1, g2⟩ := hl3.below hb
      rw [hlk] at g0 g1 g2 hok1 hst
      simp only at hok1 g0 g1 g2 hst
      obtain ⟨o1, o2, o3, o4, _, o6, o7⟩ := hok1
      obtain ⟨u, rfl⟩ : ∃ u : Nat, f = (u : Int) := ⟨f.toNat, by omega⟩
      obtain ⟨v, rfl⟩ : ∃ v : Nat, t = (v : Int) := ⟨t.toNat, by omega⟩
      have ful := hfar.out u (by have := hlq.out; omega)
      obtain ⟨x', hx', hcu⟩ := hl.out u (by have := hlq.out; omega)
      obtain rfl := Option.some.inj hx'
      obtain ⟨x', hx', hcv⟩ := hl.out v (by have := hlq.out; omega)
      obtain rfl := Option.some.inj hx'
      have hcu2 := (hb.cell (block_lt_of_cell hcu)).trans hcu
      have hcv2 := (hb.cell (block_lt_of_cell hcv)).trans hcv
      rw [Int.toNat_natCast, Int.toNat_natCast] at hst
      obtain ⟨p, hp⟩ : ∃ p, l.getD u 0 = p := ⟨_, rfl⟩
      obtain ⟨s, hs⟩ : ∃ s, l.getD v 0 = s := ⟨_, rfl⟩
      rw [hp] at hcu2 hst ful
      rw [hs] at hcv2 hst
      clear hl3 hcu hcv hlk hp hs
      obtain ⟨p1, p2⟩ := ful
      have hi5 : (k : Int) < (m : Int) := by omega
      have u1 : (0 : Int) ≤ (u : Int) := by omega
      have u2 : (u : Int) < (q : Int) := by omega
      have v1 : (0 : Int) ≤ (v : Int) := by omega
      have v2 : (v : Int) < (q : Int) := by omega
      by_cases hgt : p + mo < s
      · rw [if_pos hgt] at hst
        have hR2 : Hid (R = false) := Lib.hid (by rw [← hR.out, hsol.out, hst])
        clear hst hsol
        go_upto_region 7 with fail
        have Xu := cell_alloc hcu2 (Obj.cells #[.int .i64 (u : Int), .int .i64 (v : Int), .int .i64 mo] 58)
        have Xv := cell_alloc hcv2 (Obj.cells #[.int .i64 (u : Int), .int .i64 (v : Int), .int .i64 mo] 58)
        have X0 : (wr.alloc (Obj.cells #[.int .i64 (u : Int), .int .i64 (v : Int), .int .i64 mo] 58)).cell? ⟨wr.heap.size, 0, none⟩ = some (.int .i64 (u : Int)) := by simp [go_sem]
        have X1 : (wr.alloc (Obj.cells #[.int .i64 (u : Int), .int .i64 (v : Int), .int .i64 mo] 58)).cell? ⟨wr.heap.size, 1, none⟩ = some (.int .i64 (v : Int)) := by simp [go_sem]
        have X2 : (wr.alloc (Obj.cells #[.int .i64 (u : Int), .int .i64 (v : Int), .int .i64 mo] 58)).cell? ⟨wr.heap.size, 2, none⟩ = some (.int .i64 mo) := by simp [go_sem]
        have XB : Below w.heap.size w (wr.alloc (Obj.cells #[.int .i64 (u : Int), .int .i64 (v : Int), .int .i64 mo] 58)) := below_alloc hb _
        have XN := cell_alloc hn (Obj.cells #[.int .i64 (u : Int), .int .i64 (v : Int), .int .i64 mo] 58)
        have XZ := block_lt_of_cell XN
        clear g0 g1 g2 hcu2 hcv2 hb hn hsz
        generalize wr.alloc (Obj.cells #[.int .i64 (u : Int), .int .i64 (v : Int), .int .i64 mo] 58) = X at *
        generalize wr.heap.size = lb at *
        go_region
        go_wp2
        go_ret
        exact ⟨by rw [hR2.out]; rfl, (by repeat (first | with_reducible exact Below.refl _ _ | with_reducible assumption | refine below_drewN ?_ _ | refine Below.drew ?_ | refine Below.alloc ?_ (by first | (simp; done) | (simp; omega) | omega) _ | refine Below.setCell ?_ (by first | (simp; done) | (simp; omega) | omega) _ | refine Below.trans ?_ (Below.mono (by assumption) (by first | (simp; done) | (simp; omega) | omega))))⟩
      · rw [if_neg hgt] at hst
        replace hst := Lib.hid hst
        go_upto_region 7 with fail
        have Xu := cell_alloc hcu2 (Obj.cells #[.int .i64 (u : Int), .int .i64 (v : Int), .int .i64 mo] 58)
        have Xv := cell_alloc hcv2 (Obj.cells #[.int .i64 (u : Int), .int .i64 (v : Int), .int .i64 mo] 58)
        have X0 : (wr.alloc (Obj.cells #[.int .i64 (u : Int), .int .i64 (v : Int), .int .i64 mo] 58)).cell? ⟨wr.heap.size, 0, none⟩ = some (.int .i64 (u : Int)) := by simp [go_sem]
        have X1 : (wr.alloc (Obj.cells #[.int .i64 (u : Int), .int .i64 (v : Int), .int .i64 mo] 58)).cell? ⟨wr.heap.size, 1, none⟩ = some (.int .i64 (v : Int)) := by simp [go_sem]
        have X2 : (wr.alloc (Obj.cells #[.int .i64 (u : Int), .int .i64 (v : Int), .int .i64 mo] 58)).cell? ⟨wr.heap.size, 2, none⟩ = some (.int .i64 mo) := by simp [go_sem]
        have XB : Below w.heap.size w (wr.alloc (Obj.cells #[.int .i64 (u : Int), .int .i64 (v : Int), .int .i64 mo] 58)) := below_alloc hb _
        have XN := cell_alloc hn (Obj.cells #[.int .i64 (u : Int), .int .i64 (v : Int), .int .i64 mo] 58)
        have XZ := block_lt_of_cell XN
        clear g0 g1 g2 hcu2 hcv2 hb hn hsz
        generalize wr.alloc (Obj.cells #[.int .i64 (u : Int), .int .i64 (v : Int), .int .i64 mo] 58) = X at *
        generalize wr.heap.size = lb at *
        go_region
        go_wp2
        go_roundw
        case rel => exact ⟨k + 1, by omega, by go_num, XN, (by repeat (first | with_reducible exact Below.refl _ _ | with_reducible assumption | refine below_drewN ?_ _ | refine Below.drew ?_ | refine Below.alloc ?_ (by first | (simp; done) | (simp; omega) | omega) _ | refine Below.setCell ?_ (by first | (simp; done) | (simp; omega) | omega) _ | refine Below.trans ?_ (Below.mono (by assumption) (by first | (simp; done) | (simp; omega) | omega)))), XZ, Lib.hid (by rw [hsol.out, hst.out])⟩
        case measure => first | (simp [RowKit.intOf]; done) | (simp [RowKit.intOf]; omega) | omega
    · obtain rfl : k = m := by omega
      have hi5 : ¬ (k : Int) < (k : Int) := by omega
      have hR2 : Hid (R = true) := Lib.hid (by rw [← hR.out, hsol.out, List.drop_eq_nil_of_le (by have := hm.out; omega)]; rfl)
      clear hsol
      go_wp2
      go_ret
      exact ⟨by rw [hR2.out]; rfl, (by repeat (first | with_reducible exact Below.refl _ _ | with_reducible assumption | refine below_drewN ?_ _ | refine Below.drew ?_ | refine Below.alloc ?_ (by first | (simp; done) | (simp; omega) | omega) _ | refine Below.setCell ?_ (by first | (simp; done) | (simp; omega) | omega) _ | refine Below.trans ?_ (Below.mono (by assumption) (by first | (simp; done) | (simp; omega) | omega))))⟩

/-- Solves, of a list of the right size -/
def rsolves (n : Int) (L : List Ch.Lk) (l : List Int) : Bool := if (l.length : Int) ≠ n then false else if l.getD 0 0 ≠ 0 then false else Ch.solves L l
theorem rsolves_any (n : Int) (n1 : 1 ≤ n) (a : Option Addr) (cap : Nat) (L : List Ch.Lk) (hm2 : L.length ≤ 300) (hok : ∀ j, j < L.length → Ch.okLk n (L.getD j Ch.noLk) = true) (b : Option Addr) (cap2 : Nat) (l : List Int) (hfar : ∀ k, k < l.length → -1152921504606846976 ≤ l.getD k 0 ∧ l.getD k 0 ≤ 1152921504606846976) (w : World) (hL : LksAt w a L) (hl : IntsAt w b l) :
    Calls Try.prog 23 #[sysV n a L.length cap, .slice b l.length cap2] w fun e w' => e = .returned (.bool (rsolves n L l)) ∧ Below w.heap.size w w' := by
  unfold rsolves
  by_cases hq : (l.length : Int) = n
  · rw [if_neg (by omega)]
    obtain ⟨x, rfl, hx⟩ := hl 0 (by omega)
    have hx0 : x.add 0 = x := by unfold Addr.add; split <;> simp_all
    rw [hx0] at hx
    by_cases hz : l.getD 0 0 = 0
    · rw [if_neg (by omega)]
      rw [hz] at hx
      exact rsolves_loop n n1 a _ cap L (Lib.hid rfl) hm2 (Lib.hid hok) x _ cap2 l (Lib.hid rfl) hq (Lib.hid hfar) w hx (Lib.hid hL) (Lib.hid hl) _ (Lib.hid rfl)
    · rw [if_pos hz]
      exact rsolves_zero n a _ cap x _ cap2 (by omega) (by rw [hq]; simp) _ (by rw [bne_iff_ne]; exact hz) w hx
  · rw [if_pos hq]
    exact rsolves_len n a _ cap b _ cap2 (by rw [bne_iff_ne]; exact hq) w
end Go.Proofs.Ytkcchangkhklcaa
