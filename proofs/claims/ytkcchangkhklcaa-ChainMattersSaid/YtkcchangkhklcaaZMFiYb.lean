/- Several texts one behind the other. -/
import Derived.Test.YtkcchangkhklcaaZ06
set_option linter.unusedSimpArgs false
set_option linter.unusedVariables false
/- Contracts of package chain: Fits. -/
namespace Go.Proofs.Ytkcchangkhklcaa
open Go.RowKit

/-- the index that is found, or none -/
def IxPost (w : World) (b : Bool) (e : Ending) (w' : World) : Prop := ∃ z : Int, e = .returned (.int .i64 z) ∧ (0 ≤ z ↔ b = true) ∧ w' = w

set_option maxRecDepth 100000 in
set_option maxHeartbeats 1000000 in
theorem indexFar_any (a : Option Addr) (cap : Nat) (l : List Int) (m : Nat) (hm : Hid (l.length = m)) (hm2 : m ≤ 1000) (b : Bool) (hb : Hid (l.any Ch.far = b)) (w : World) (hl : Hid (IntsAt w a l)) :
    Calls Try.prog 87 #[.slice a m cap, .func (.func 69) #[] #[]] w (IxPost w b) := by
  go_enter Try.func87, Try.ntmps87
  go_wp2
  go_loopw [8] (fun i wr => ∃ k : Nat, k ≤ m ∧ i = .int .i64 k ∧ wr = w ∧ Hid (l.any Ch.far = (l.drop k).any Ch.far)) (fun i _ => m - (RowKit.intOf i).toNat)
  case atStart => exact ⟨0, Nat.zero_le _, rfl, rfl, Lib.hid rfl⟩
  case round =>
    obtain ⟨k, hk, rfl, rfl, hany⟩ := hrel
    by_cases hlt : k < m
    · obtain ⟨x, rfl, hcx⟩ := hl.out k (by have := hm.out; omega)
      have hst := Ch.any_at (p := Ch.far) (l := l) (k := k) (by have := hm.out; omega)
      obtain ⟨z, hz⟩ : ∃ z, l.getD k 0 = z := ⟨_, rfl⟩
      rw [hz] at hcx hst
      clear hz
      have hi5 : (k : Int) < (m : Int) := by omega
      have HV := tooFar_any z
      cases hv : Ch.far z
      · rw [hv] at HV hst
        replace HV := Lib.hid HV
        replace hst := Lib.hid hst
        go_wp2_with fail
        refine (HV.out _).mono ?_
        rintro e w1 ⟨rfl, hb1⟩
        subst hb1
        go_wp2
        go_roundw
        case rel => exact ⟨k + 1, by omega, by go_num, by first | rfl | trivial, Lib.hid (by rw [hany.out, hst.out]; simp)⟩
        case measure => first | (simp [RowKit.intOf]; done) | (simp [RowKit.intOf]; omega) | omega
      · rw [hv] at HV hst
        replace HV := Lib.hid HV
        replace hst := Lib.hid hst
        go_wp2_with fail
        refine (HV.out _).mono ?_
        rintro e w1 ⟨rfl, hb1⟩
        subst hb1
        go_wp2
        go_ret
        exact ⟨_, rfl, by rw [← hb.out, hany.out, hst.out]; simp, rfl⟩
    · obtain rfl : k = m := by omega
      have hi5 : ¬ (k : Int) < (k : Int) := by omega
      have hb9 : Hid (l.any Ch.far = false) := Lib.hid (by rw [hany.out, List.drop_eq_nil_of_le (by have := hm.out; omega)]; rfl)
      clear hany
      go_wp2
      go_ret
      exact ⟨-1, rfl, by rw [← hb.out, hb9.out]; simp, rfl⟩

set_option maxHeartbeats 400000 in
theorem containsFar_any (a : Option Addr) (cap : Nat) (l : List Int) (m : Nat) (hm : Hid (l.length = m)) (hm2 : m ≤ 1000) (w : World) (hl : Hid (IntsAt w a l)) :
    Calls Try.prog 68 #[.slice a m cap, .func (.func 69) #[] #[]] w fun e w' => e = .returned (.bool (l.any Ch.far)) ∧ w' = w := by
  obtain ⟨b, hb⟩ : ∃ b, l.any Ch.far = b := ⟨_, rfl⟩
  rw [hb]
  have H := indexFar_any a cap l m hm hm2 b (Lib.hid hb) w hl
  clear hb hl
  go_enter Try.func68, Try.ntmps68
  go_wp2_with fail
  refine H.mono ?_
  rintro e w1 ⟨z, rfl, hz, rfl⟩
  replace hz := Lib.hid hz
  go_wp2
  go_ret
  refine ⟨ret_bool ?_, rfl⟩
  have h := hz.out
  cases b
  · simp at h
    rw [decide_eq_false (by omega)]
  · simp at h
    rw [decide_eq_true (by omega)]

set_option maxHeartbeats 400000 in
theorem fits_bad (n : Int) (a : Option Addr) (m cap : Nat) (b : Option Addr) (q cap2 : Nat) (ec at1 : Int) (hec : ¬ ec = 0) (w : World) (HC : Hid (∀ W : World, Below w.heap.size w W → Calls Try.prog 11 #[.agg #[.int .i64 n, .slice a m cap]] W fun e w' => e = .returned (.tuple #[.int .i64 ec, .int .i64 at1]) ∧ Below W.heap.size W w')) :
    Calls Try.prog 39 #[.agg #[.int .i64 n, .slice a m cap], .slice b q cap2] w fun e w' => e = .returned (.tuple #[.bool false, .int .i64 ec]) ∧ Below w.heap.size w w' := by
  go_enter Try.func39, Try.ntmps39
  go_wp2_with fail
  refine (HC.out _ (below_alloc (Below.refl _ _) _)).mono ?_
  rintro e w1 ⟨rfl, hb1⟩
  go_wp2
  go_ret2
  exact ⟨rfl, (by repeat (first | with_reducible exact Below.refl _ _ | with_reducible assumption | refine below_drewN ?_ _ | refine Below.drew ?_ | refine Below.alloc ?_ (by first | (simp; done) | (simp; omega) | omega) _ | refine Below.setCell ?_ (by first | (simp; done) | (simp; omega) | omega) _ | refine Below.trans ?_ (Below.mono (by assumption) (by first | (simp; done) | (simp; omega) | omega))))⟩

set_option maxHeartbeats 400000 in
theorem fits_len (n : Int) (a : Option Addr) (m cap : Nat) (b : Option Addr) (q cap2 : Nat) (at1 : Int) (hq : ((q : Int) != n) = true) (w : World) (HC : Hid (∀ W : World, Below w.heap.size w W → Calls Try.prog 11 #[.agg #[.int .i64 n, .slice a m cap]] W fun e w' => e = .returned (.tuple #[.int .i64 0, .int .i64 at1]) ∧ Below W.heap.size W w')) :
    Calls Try.prog 39 #[.agg #[.int .i64 n, .slice a m cap], .slice b q cap2] w fun e w' => e = .returned (.tuple #[.bool false, .int .i64 1]) ∧ Below w.heap.size w w' := by
  go_enter Try.func39, Try.ntmps39
  go_wp2_with fail
  refine (HC.out _ (below_alloc (Below.refl _ _) _)).mono ?_
  rintro e w1 ⟨rfl, hb1⟩
  have k0 : w1.cell? ⟨w.heap.size, 0, none⟩ = some (.int .i64 n) := kept1 (by simp [go_sem]) hb1
  go_wp2
  go_ret2
  exact ⟨rfl, (by repeat (first | with_reducible exact Below.refl _ _ | with_reducible assumption | refine below_drewN ?_ _ | refine Below.drew ?_ | refine Below.alloc ?_ (by first | (simp; done) | (simp; omega) | omega) _ | refine Below.setCell ?_ (by first | (simp; done) | (simp; omega) | omega) _ | refine Below.trans ?_ (Below.mono (by assumption) (by first | (simp; done) | (simp; omega) | omega))))⟩

set_option maxHeartbeats 400000 in
theorem fits_far (n : Int) (a : Option Addr) (m cap : Nat) (b : Option Addr) (q cap2 : Nat) (at1 : Int) (hq : ((q : Int) != n) = false) (w : World) (HC : Hid (∀ W : World, Below w.heap.size w W → Calls Try.prog 11 #[.agg #[.int .i64 n, .slice a m cap]] W fun e w' => e = .returned (.tuple #[.int .i64 0, .int .i64 at1]) ∧ Below W.heap.size W w'))
    (HF : Hid (∀ W : World, Below w.heap.size w W → Calls Try.prog 68 #[.slice b q cap2, .func (.func 69) #[] #[]] W fun e w' => e = .returned (.bool true) ∧ w' = W)) :
    Calls Try.prog 39 #[.agg #[.int .i64 n, .slice a m cap], .slice b q cap2] w fun e w' => e = .returned (.tuple #[.bool false, .int .i64 1]) ∧ Below w.heap.size w w' := by
  go_enter Try.func39, Try.ntmps39
  go_wp2_with fail
  refine (HC.out _ (below_alloc (Below.refl _ _) _)).mono ?_
  rintro e w1 ⟨rfl, hb1⟩
  have k0 : w1.cell? ⟨w.heap.size, 0, none⟩ = some (.int .i64 n) := kept1 (by simp [go_sem]) hb1
  have hv1 : Below w.heap.size w w1 := bstep1 (Below.refl _ _) hb1
  clear hb1
  go_wp2_with fail
  refine (HF.out _ hv1).mono ?_
  rintro e w2 ⟨rfl, hw⟩
  subst hw
  go_wp2
  go_ret2
  exact ⟨rfl, (by repeat (first | with_reducible exact Below.refl _ _ | with_reducible assumption | refine below_drewN ?_ _ | refine Below.drew ?_ | refine Below.alloc ?_ (by first | (simp; done) | (simp; omega) | omega) _ | refine Below.setCell ?_ (by first | (simp; done) | (simp; omega) | omega) _ | refine Below.trans ?_ (Below.mono (by assumption) (by first | (simp; done) | (simp; omega) | omega))))⟩

set_option maxRecDepth 100000 in
set_option maxHeartbeats 2000000 in
theorem fits_loop (n : Int) (n1 : 1 ≤ n) (n2 : n ≤ 60) (a : Option Addr) (m cap : Nat) (L : List Ch.Lk) (hm : Hid (L.length = m)) (hm2 : m ≤ 300) (hok : Hid (∀ j, j < L.length → Ch.okLk n (L.getD j Ch.noLk) = true)) (x : Addr) (q cap2 : Nat) (l : List Int) (hlq : Hid (l.length = q)) (at1 : Int) (hqn : (q : Int) = n) (hfar : Hid (∀ k, k < l.length → -1152921504606846976 ≤ l.getD k 0 ∧ l.getD k 0 ≤ 1152921504606846976)) (w : World) (hL : Hid (LksAt w a L)) (hl : Hid (IntsAt w (some x) l))
    (HC : Hid (∀ W : World, Below w.heap.size w W → Calls Try.prog 11 #[.agg #[.int .i64 n, .slice a m cap]] W fun e w' => e = .returned (.tuple #[.int .i64 0, .int .i64 at1]) ∧ Below W.heap.size W w'))
    (HF : Hid (∀ W : World, Below w.heap.size w W → Calls Try.prog 68 #[.slice (some x) q cap2, .func (.func 69) #[] #[]] W fun e w' => e = .returned (.bool false) ∧ w' = W)) (R : Bool) (hR : Hid ((if Ch.solves L l = true then l.getD 0 0 == 0 else false) = R)) :
    Calls Try.prog 39 #[.agg #[.int .i64 n, .slice a m cap], .slice (some x) q cap2] w fun e w' => e = .returned (.tuple #[.bool R, .int .i64 0]) ∧ Below w.heap.size w w' := by
  have hq : ((q : Int) != n) = false := by rw [hqn]; simp
  go_enter Try.func39, Try.ntmps39
  go_wp2_with fail
  refine (HC.out _ (below_alloc (Below.refl _ _) _)).mono ?_
  rintro e w1 ⟨rfl, hb1⟩
  have k0 : w1.cell? ⟨w.heap.size, 0, none⟩ = some (.int .i64 n) := kept1 (by simp [go_sem]) hb1
  have k1 : w1.cell? ⟨w.heap.size, 1, none⟩ = some (.slice a m cap) := kept1 (by simp [go_sem]) hb1
  have hv1 : Below w.heap.size w w1 := bstep1 (Below.refl _ _) hb1
  clear hb1
  go_wp2_with fail
  refine (HF.out _ hv1).mono ?_
  rintro e w2 ⟨rfl, hw⟩
  subst hw
  clear HC HF
  go_wp2
  go_loopw [30] (fun i wr => ∃ k : Nat, k ≤ m ∧ i = .int .i64 k ∧ Below w.heap.size w wr ∧ Hid (Ch.solves L l = Ch.solves (L.drop k) l)) (fun i _ => m - (RowKit.intOf i).toNat)
  case atStart => exact ⟨0, Nat.zero_le _, rfl, hv1, Lib.hid rfl⟩
  case round =>
    obtain ⟨k, hk, rfl, hb, hsol⟩ := hrel
    by_cases hlt : k < m
    · obtain ⟨y, rfl, hl3⟩ := hL.out k (by have := hm.out; omega)
      have hok1 := Ch.okLk_spec (hok.out k (by have := hm.out; omega))
      have hst := Ch.solves_at (L := L) (x := l) (k := k) (by have := hm.out; omega)
      obtain ⟨f, t, mo, hlk⟩ : ∃ f t mo, L.getD k Ch.noLk = ⟨f, t, mo⟩ := ⟨_, _, _, rfl⟩
      have ⟨g0, g1, g2⟩ := hl3.below hb
      rw [hlk] at g0 g1 g2 hok1 hst
      simp only at hok1 g0 g1 g2 hst
      obtain ⟨o1, o2, o3, o4, _, o6, o7⟩ := hok1
      obtain ⟨u, rfl⟩ : ∃ u : Nat, f = (u : Int) := ⟨f.toNat, by omega⟩
      obtain ⟨v, rfl⟩ : ∃ v : Nat, t = (v : Int) := ⟨t.toNat, by omega⟩
      have ful := hfar.out u (by have := hlq.out; omega)
      obtain ⟨x', hx', hcu⟩ := hl.out u (by have := hlq.out; omega)
      obtain rfl := Option.some.inj hx'
      obtain ⟨x', hx', hcv⟩ := hl.out v (by have := hlq.out; omega)
      obtain rfl := Option.some.inj hx'
      have hcu2 := (hb.cell (block_lt_of_cell hcu)).trans hcu
      have hcv2 := (hb.cell (block_lt_of_cell hcv)).trans hcv
      rw [Int.toNat_natCast, Int.toNat_natCast] at hst
      obtain ⟨p, hp⟩ : ∃ p, l.getD u 0 = p := ⟨_, rfl⟩
      obtain ⟨s, hs⟩ : ∃ s, l.getD v 0 = s := ⟨_, rfl⟩
      rw [hp] at hcu2 hst ful
      rw [hs] at hcv2 hst
      clear hl3 hcu hcv hlk hp hs
      obtain ⟨p1, p2⟩ := ful
      have hi5 : (k : Int) < (m : Int) := by omega
      have u1 : (0 : Int) ≤ (u : Int) := by omega
      have u2 : (u : Int) < (q : Int) := by omega
      have v1 : (0 : Int) ≤ (v : Int) := by omega
      have v2 : (v : Int) < (q : Int) := by omega
      by_cases hgt : p + mo < s
      · rw [if_pos hgt] at hst
        have hR2 : Hid (R = false) := Lib.hid (by rw [← hR.out, hsol.out, hst]; simp)
        clear hst hsol
        go_upto_region 9 with fail
        have Xu := cell_alloc hcu2 (Obj.cells #[.int .i64 (u : Int), .int .i64 (v : Int), .int .i64 mo] 58)
        have Xv := cell_alloc hcv2 (Obj.cells #[.int .i64 (u : Int), .int .i64 (v : Int), .int .i64 mo] 58)
        have X0 : (wr.alloc (Obj.cells #[.int .i64 (u : Int), .int .i64 (v : Int), .int .i64 mo] 58)).cell? ⟨wr.heap.size, 0, none⟩ = some (.int .i64 (u : Int)) := by simp [go_sem]
        have X1 : (wr.alloc (Obj.cells #[.int .i64 (u : Int), .int .i64 (v : Int), .int .i64 mo] 58)).cell? ⟨wr.heap.size, 1, none⟩ = some (.int .i64 (v : Int)) := by simp [go_sem]
        have X2 : (wr.alloc (Obj.cells #[.int .i64 (u : Int), .int .i64 (v : Int), .int .i64 mo] 58)).cell? ⟨wr.heap.size, 2, none⟩ = some (.int .i64 mo) := by simp [go_sem]
        have XB : Below w.heap.size w (wr.alloc (Obj.cells #[.int .i64 (u : Int), .int .i64 (v : Int), .int .i64 mo] 58)) := below_alloc hb _
        clear g0 g1 g2 hcu2 hcv2 hb k0 k1 hv1
        generalize wr.alloc (Obj.cells #[.int .i64 (u : Int), .int .i64 (v : Int), .int .i64 mo] 58) = X at *
        generalize wr.heap.size = lb at *
        go_region
        go_wp2
        go_ret2
        exact ⟨by rw [hR2.out]; rfl, (by repeat (first | with_reducible exact Below.refl _ _ | with_reducible assumption | refine below_drewN ?_ _ | refine Below.drew ?_ | refine Below.alloc ?_ (by first | (simp; done) | (simp; omega) | omega) _ | refine Below.setCell ?_ (by first | (simp; done) | (simp; omega) | omega) _ | refine Below.trans ?_ (Below.mono (by assumption) (by first | (simp; done) | (simp; omega) | omega))))⟩
      · rw [if_neg hgt] at hst
        replace hst := Lib.hid hst
        go_upto_region 9 with fail
        have Xu := cell_alloc hcu2 (Obj.cells #[.int .i64 (u : Int), .int .i64 (v : Int), .int .i64 mo] 58)
        have Xv := cell_alloc hcv2 (Obj.cells #[.int .i64 (u : Int), .int .i64 (v : Int), .int .i64 mo] 58)
        have X0 : (wr.alloc (Obj.cells #[.int .i64 (u : Int), .int .i64 (v : Int), .int .i64 mo] 58)).cell? ⟨wr.heap.size, 0, none⟩ = some (.int .i64 (u : Int)) := by simp [go_sem]
        have X1 : (wr.alloc (Obj.cells #[.int .i64 (u : Int), .int .i64 (v : Int), .int .i64 mo] 58)).cell? ⟨wr.heap.size, 1, none⟩ = some (.int .i64 (v : Int)) := by simp [go_sem]
        have X2 : (wr.alloc (Obj.cells #[.int .i64 (u : Int), .int .i64 (v : Int), .int .i64 mo] 58)).cell? ⟨wr.heap.size, 2, none⟩ = some (.int .i64 mo) := by simp [go_sem]
        have XB : Below w.heap.size w (wr.alloc (Obj.cells #[.int .i64 (u : Int), .int .i64 (v : Int), .int .i64 mo] 58)) := below_alloc hb _
        clear g0 g1 g2 hcu2 hcv2 hb k0 k1 hv1
        generalize wr.alloc (Obj.cells #[.int .i64 (u : Int), .int .i64 (v : Int), .int .i64 mo] 58) = X at *
        generalize wr.heap.size = lb at *
        go_region
        go_wp2
        go_roundw
        case rel => exact ⟨k + 1, by omega, by go_num, (by repeat (first | with_reducible exact Below.refl _ _ | with_reducible assumption | refine below_drewN ?_ _ | refine Below.drew ?_ | refine Below.alloc ?_ (by first | (simp; done) | (simp; omega) | omega) _ | refine Below.setCell ?_ (by first | (simp; done) | (simp; omega) | omega) _ | refine Below.trans ?_ (Below.mono (by assumption) (by first | (simp; done) | (simp; omega) | omega)))), Lib.hid (by rw [hsol.out, hst.out])⟩
        case measure => first | (simp [RowKit.intOf]; done) | (simp [RowKit.intOf]; omega) | omega
    · obtain rfl : k = m := by omega
      have hi5 : ¬ (k : Int) < (k : Int) := by omega
      have hR2 : Hid ((l.getD 0 0 == 0) = R) := Lib.hid (by
        have h := hR.out
        rw [hsol.out, List.drop_eq_nil_of_le (by have := hm.out; omega)] at h
        rw [← h]; simp [Ch.solves])
      obtain ⟨x', hx', hc0⟩ := hl.out 0 (by have := hlq.out; omega)
      obtain rfl := Option.some.inj hx'
      have hx0 : x.add 0 = x := by unfold Addr.add; split <;> simp_all
      rw [hx0] at hc0
      have hc2 := (hb.cell (block_lt_of_cell hc0)).trans hc0
      obtain ⟨p, hp⟩ : ∃ p, l.getD 0 0 = p := ⟨_, rfl⟩
      rw [hp] at hc2 hR2
      clear hsol hc0 hp hx0
      have u2 : (0 : Int) < (q : Int) := by omega
      go_wp2
      go_ret2
      exact ⟨by rw [← hR2.out]; rfl, (by repeat (first | with_reducible exact Below.refl _ _ | with_reducible assumption | refine below_drewN ?_ _ | refine Below.drew ?_ | refine Below.alloc ?_ (by first | (simp; done) | (simp; omega) | omega) _ | refine Below.setCell ?_ (by first | (simp; done) | (simp; omega) | omega) _ | refine Below.trans ?_ (Below.mono (by assumption) (by first | (simp; done) | (simp; omega) | omega))))⟩

/-- Fits -/
theorem fits_any (n : Int) (a : Option Addr) (cap : Nat) (L : List Ch.Lk) (b : Option Addr) (cap2 : Nat) (l : List Int) (w : World) (hL : LksAt w a L) (hl : IntsAt w b l) :
    Calls Try.prog 39 #[sysV n a L.length cap, .slice b l.length cap2] w fun e w' => e = .returned (.tuple #[.bool (Ch.fits n L l).1, .int .i64 (Ch.fits n L l).2]) ∧ Below w.heap.size w w' := by
  have HC := Lib.hid fun (W : World) (hb : Below w.heap.size w W) => check_any n a cap L W (hL.below hb)
  unfold Ch.fits
  by_cases h : (Ch.check n L).1 = 0
  · rw [if_neg (by omega)]
    rw [h] at HC
    obtain ⟨n1, n2, hm, hok⟩ := Ch.check_ok h
    by_cases hq : (l.length : Int) = n
    · have hq2 : ((l.length : Int) != n) = false := by rw [hq]; simp
      have HF := Lib.hid fun (W : World) (hb : Below w.heap.size w W) => containsFar_any b cap2 l l.length (Lib.hid rfl) (by omega) W (Lib.hid (hl.below hb))
      cases hf : l.any Ch.far
      · rw [if_neg (by simp [hq])]
        rw [hf] at HF
        obtain ⟨x, rfl, _⟩ := hl 0 (by omega)
        obtain ⟨R, hR⟩ : ∃ R, (if Ch.solves L l = true then l.getD 0 0 == 0 else false) = R := ⟨_, rfl⟩
        have e : (if Ch.solves L l = true then (l.getD 0 0 == 0, (0 : Int)) else (false, 0)) = (R, 0) := by rw [← hR]; split <;> rfl
        rw [e]
        exact fits_loop n n1 n2 a _ cap L (Lib.hid rfl) hm (Lib.hid hok) x _ cap2 l (Lib.hid rfl) _ hq (Lib.hid (Ch.any_far hf)) w (Lib.hid hL) (Lib.hid hl) HC HF R (Lib.hid hR)
      · rw [if_pos (.inr rfl)]
        rw [hf] at HF
        exact fits_far n a _ cap b _ cap2 _ hq2 w HC HF
    · rw [if_pos (.inl hq)]
      exact fits_len n a _ cap b _ cap2 _ (by rw [bne_iff_ne]; exact hq) w HC
  · rw [if_pos h]
    exact fits_bad n a _ cap b _ cap2 _ _ h w HC
end Go.Proofs.Ytkcchangkhklcaa

/- What the laws' walks of layer 2 share: small, the law's post, the world with the system and two lists. -/
namespace Go.Proofs.Ytkcchangkhklcaa
open Go.RowKit

set_option maxRecDepth 100000 in
set_option maxHeartbeats 2000000 in
theorem small_any (n : Int) (a : Option Addr) (m cap : Nat) (b : Bool) (hb : Hid ((decide (m ≤ 310) && decide (n ≤ 70)) = b)) (w : World) :
    Calls Try.prog 9 #[sysV n a m cap] w fun e w' => e = .returned (.bool b) ∧ Below w.heap.size w w' := by
  unfold sysV
  by_cases h1 : m ≤ 310
  · have h2 : (m : Int) ≤ 310 := by omega
    by_cases h3 : n ≤ 70
    · obtain rfl : true = b := by rw [← hb.out]; simp [h1, h3]
      clear hb
      go_enter Try.func9, Try.ntmps9
      go_wp2
      go_ret
      exact ⟨rfl, (by repeat (first | with_reducible exact Below.refl _ _ | with_reducible assumption | refine below_drewN ?_ _ | refine Below.drew ?_ | refine Below.alloc ?_ (by first | (simp; done) | (simp; omega) | omega) _ | refine Below.setCell ?_ (by first | (simp; done) | (simp; omega) | omega) _ | refine Below.trans ?_ (Below.mono (by assumption) (by first | (simp; done) | (simp; omega) | omega))))⟩
    · obtain rfl : false = b := by rw [← hb.out]; simp [h3]
      clear hb
      go_enter Try.func9, Try.ntmps9
      go_wp2
      go_ret
      exact ⟨rfl, (by repeat (first | with_reducible exact Below.refl _ _ | with_reducible assumption | refine below_drewN ?_ _ | refine Below.drew ?_ | refine Below.alloc ?_ (by first | (simp; done) | (simp; omega) | omega) _ | refine Below.setCell ?_ (by first | (simp; done) | (simp; omega) | omega) _ | refine Below.trans ?_ (Below.mono (by assumption) (by first | (simp; done) | (simp; omega) | omega))))⟩
  · have h2 : ¬ (m : Int) ≤ 310 := by omega
    obtain rfl : false = b := by rw [← hb.out]; simp [h1]
    clear hb
    go_enter Try.func9, Try.ntmps9
    go_wp2
    go_ret
    exact ⟨rfl, (by repeat (first | with_reducible exact Below.refl _ _ | with_reducible assumption | refine below_drewN ?_ _ | refine Below.drew ?_ | refine Below.alloc ?_ (by first | (simp; done) | (simp; omega) | omega) _ | refine Below.setCell ?_ (by first | (simp; done) | (simp; omega) | omega) _ | refine Below.trans ?_ (Below.mono (by assumption) (by first | (simp; done) | (simp; omega) | omega))))⟩

def LawPost (w : World) (e : Ending) (w' : World) : Prop := e = .returned (.bool true) ∧ Below w.heap.size w w'

/-- the world in the law: the system in its box, the lists -/
structure LJ (w : World) (n : Int) (a b d : Option Addr) (m cap : Nat) (L : List Ch.Lk) (xl xs : List Int) (W : World) : Prop where
  c0 : W.cell? ⟨w.heap.size, 0, none⟩ = some (.int .i64 n)
  c1 : W.cell? ⟨w.heap.size, 1, none⟩ = some (.slice a m cap)
  l : LksAt W a L
  x : IntsAt W b xl
  y : IntsAt W d xs
  b : Below w.heap.size w W
theorem LJ.below {w W W' : World} {n : Int} {a b d : Option Addr} {m cap : Nat} {L : List Ch.Lk} {xl xs : List Int} (h : LJ w n a b d m cap L xl xs W) (hb : Below W.heap.size W W') : LJ w n a b d m cap L xl xs W' := ⟨kept1 h.c0 hb, kept1 h.c1 hb, h.l.below hb, h.x.below hb, h.y.below hb, h.b.trans (hb.mono h.b.size)⟩

end Go.Proofs.Ytkcchangkhklcaa
