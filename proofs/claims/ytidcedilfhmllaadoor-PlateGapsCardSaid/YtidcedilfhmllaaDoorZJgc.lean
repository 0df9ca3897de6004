/- Contracts: Gaps of package plate and of the specification. Written by genGc.py. -/
import Derived.Test.YtidcedilfhmllaaDoorZJgb
import Derived.Test.YtidcedilfhmllaaDoorZ29
set_option linter.unusedSimpArgs false
set_option linter.unusedVariables false
namespace Go.Proofs.YtidcedilfhmllaaDoor
open Go.RowKit
set_option linter.unusedVariables false
set_option linter.unusedSimpArgs false

theorem heights_ok (s : Nat) (a : Option Addr) (n c : Nat) (l : List Int) (hn : l.length = n) (hn2 : n ≤ 1000) (R : Bool) (hR : Pl.okH s l = R) (w : World) (hl : NsAt w a l) :
    Calls Tryd.prog 43 #[.slice a n c, .int .i64 ((s : Int) * (s : Int))] w fun e w' => e = .returned (.bool R) ∧ w' = w := by
  have h := pHeights_any a c l ((s : Int) * (s : Int)) n (Lib.hid hn) (by omega) w (Lib.hid hl)
  rw [← hn, show (decide ((l.length : Int) = (s : Int) * (s : Int)) && !l.any Pl.hfar) = R from hR] at h
  rw [hn] at h
  exact h
theorem side_ok (s : Nat) (h1 : 1 ≤ s) (h6 : s ≤ 6) (w : World) :
    Calls Tryd.prog 42 #[.int .i64 (s : Int)] w fun e w' => e = .returned (.bool true) ∧ w' = w := by
  have h := pSide_any (s : Int) w
  rw [show Pl.sd (s : Int) = true from decide_eq_true (by omega)] at h
  exact h

set_option maxRecDepth 100000 in
set_option maxHeartbeats 2000000 in
theorem pGaps_noA (side turn : Int) (hsd : Pl.sd side = false) (x y : Option Addr) (n m c d : Nat) (l1 l2 : List Int) (hn : l1.length = n) (hm : l2.length = m) (hn9 : n ≤ 1000) (hm9 : m ≤ 1000) (w : World) (hx : NsAt w x l1) (hy : NsAt w y l2) :
    Calls Tryd.prog 10 #[.int .i64 side, .slice x n c, .slice y m d, .int .i64 turn] w fun e w' => e = .returned (.tuple #[.slice none 0 0, .int .i64 1]) ∧ Below w.heap.size w w' := by
  have H0 := (show Calls Tryd.prog 42 #[.int .i64 side] w fun e w' => e = .returned (.bool false) ∧ w' = w from by have h := pSide_any side w; rw [hsd] at h; exact h)
  replace H0 := Lib.hid H0
  clear hx hy hn hm
  go_enter Tryd.func10, Tryd.ntmps10
  go_wp2_with fail
  refine (H0.out).mono ?_
  rintro e w1 ⟨rfl, hw1⟩
  subst hw1
  go_wp2
  go_ret2
  exact ⟨rfl, Below.refl _ _⟩
set_option maxRecDepth 100000 in
set_option maxHeartbeats 2000000 in
theorem pGaps_noB (s : Nat) (turn : Int) (h1 : 1 ≤ s) (h6 : s ≤ 6) (x y : Option Addr) (n m c d : Nat) (l1 l2 : List Int) (hn : l1.length = n) (hm : l2.length = m) (hn9 : n ≤ 1000) (hm9 : m ≤ 1000) (w : World) (hx : NsAt w x l1) (hy : NsAt w y l2) (ha : Pl.okH s l1 = false) :
    Calls Tryd.prog 10 #[.int .i64 (s : Int), .slice x n c, .slice y m d, .int .i64 turn] w fun e w' => e = .returned (.tuple #[.slice none 0 0, .int .i64 1]) ∧ Below w.heap.size w w' := by
  have H0 := side_ok s h1 h6 w
  replace H0 := Lib.hid H0
  have H1 := heights_ok s x n c l1 hn (by omega) false ha w hx
  replace H1 := Lib.hid H1
  have hs3 : s * s ≤ 36 := Nat.mul_le_mul h6 h6
  have hs2 : ((s * s : Nat) : Int) = (s : Int) * (s : Int) := Int.natCast_mul _ _
  have hs4 : (s : Int) * (s : Int) ≤ 36 := by omega
  have hs5 : (0 : Int) ≤ (s : Int) * (s : Int) := by omega
  clear hs2 hs3
  clear hx hy hn hm
  go_enter Tryd.func10, Tryd.ntmps10
  go_wp2_with fail
  refine (H0.out).mono ?_
  rintro e w1 ⟨rfl, hw1⟩
  subst hw1
  go_wp2_with fail
  refine (H1.out).mono ?_
  rintro e w1 ⟨rfl, hw1⟩
  subst hw1
  go_wp2
  go_ret2
  exact ⟨rfl, Below.refl _ _⟩
set_option maxRecDepth 100000 in
set_option maxHeartbeats 2000000 in
theorem pGaps_noC (s : Nat) (turn : Int) (h1 : 1 ≤ s) (h6 : s ≤ 6) (x y : Option Addr) (n m c d : Nat) (l1 l2 : List Int) (hn : l1.length = n) (hm : l2.length = m) (hn9 : n ≤ 1000) (hm9 : m ≤ 1000) (w : World) (hx : NsAt w x l1) (hy : NsAt w y l2) (ha : Pl.okH s l1 = true) (hb : Pl.okH s l2 = false) :
    Calls Tryd.prog 10 #[.int .i64 (s : Int), .slice x n c, .slice y m d, .int .i64 turn] w fun e w' => e = .returned (.tuple #[.slice none 0 0, .int .i64 1]) ∧ Below w.heap.size w w' := by
  have H0 := side_ok s h1 h6 w
  replace H0 := Lib.hid H0
  have H1 := heights_ok s x n c l1 hn (by omega) true ha w hx
  replace H1 := Lib.hid H1
  have H2 := heights_ok s y m d l2 hm (by omega) false hb w hy
  replace H2 := Lib.hid H2
  have hs3 : s * s ≤ 36 := Nat.mul_le_mul h6 h6
  have hs2 : ((s * s : Nat) : Int) = (s : Int) * (s : Int) := Int.natCast_mul _ _
  have hs4 : (s : Int) * (s : Int) ≤ 36 := by omega
  have hs5 : (0 : Int) ≤ (s : Int) * (s : Int) := by omega
  clear hs2 hs3
  clear hx hy hn hm
  go_enter Tryd.func10, Tryd.ntmps10
  go_wp2_with fail
  refine (H0.out).mono ?_
  rintro e w1 ⟨rfl, hw1⟩
  subst hw1
  go_wp2_with fail
  refine (H1.out).mono ?_
  rintro e w1 ⟨rfl, hw1⟩
  subst hw1
  go_wp2_with fail
  refine (H2.out).mono ?_
  rintro e w1 ⟨rfl, hw1⟩
  subst hw1
  go_wp2
  go_ret2
  exact ⟨rfl, Below.refl _ _⟩
set_option maxRecDepth 100000 in
set_option maxHeartbeats 2000000 in
theorem pGaps_noD (s : Nat) (turn : Int) (h1 : 1 ≤ s) (h6 : s ≤ 6) (x y : Option Addr) (n m c d : Nat) (l1 l2 : List Int) (hn : l1.length = n) (hm : l2.length = m) (hn9 : n ≤ 1000) (hm9 : m ≤ 1000) (w : World) (hx : NsAt w x l1) (hy : NsAt w y l2) (ha : Pl.okH s l1 = true) (hb : Pl.okH s l2 = true) (ht : Pl.ix turn 8 = false) :
    Calls Tryd.prog 10 #[.int .i64 (s : Int), .slice x n c, .slice y m d, .int .i64 turn] w fun e w' => e = .returned (.tuple #[.slice none 0 0, .int .i64 1]) ∧ Below w.heap.size w w' := by
  have H0 := side_ok s h1 h6 w
  replace H0 := Lib.hid H0
  have H1 := heights_ok s x n c l1 hn (by omega) true ha w hx
  replace H1 := Lib.hid H1
  have H2 := heights_ok s y m d l2 hm (by omega) true hb w hy
  replace H2 := Lib.hid H2
  have H3 := (show Calls Tryd.prog 44 #[.int .i64 turn] w fun e w' => e = .returned (.bool false) ∧ w' = w from by have h := pTurn_any turn w; rw [ht] at h; exact h)
  replace H3 := Lib.hid H3
  have hs3 : s * s ≤ 36 := Nat.mul_le_mul h6 h6
  have hs2 : ((s * s : Nat) : Int) = (s : Int) * (s : Int) := Int.natCast_mul _ _
  have hs4 : (s : Int) * (s : Int) ≤ 36 := by omega
  have hs5 : (0 : Int) ≤ (s : Int) * (s : Int) := by omega
  clear hs2 hs3
  clear hx hy hn hm
  go_enter Tryd.func10, Tryd.ntmps10
  go_wp2_with fail
  refine (H0.out).mono ?_
  rintro e w1 ⟨rfl, hw1⟩
  subst hw1
  go_wp2_with fail
  refine (H1.out).mono ?_
  rintro e w1 ⟨rfl, hw1⟩
  subst hw1
  go_wp2_with fail
  refine (H2.out).mono ?_
  rintro e w1 ⟨rfl, hw1⟩
  subst hw1
  go_wp2_with fail
  refine (H3.out).mono ?_
  rintro e w1 ⟨rfl, hw1⟩
  subst hw1
  go_wp2
  go_ret2
  exact ⟨rfl, Below.refl _ _⟩

/-- what Gaps leaves -/
def GpPost (w : World) (N : Nat) (f : Nat → Int) (e : Ending) (w' : World) : Prop :=
  ∃ b c, e = .returned (.tuple #[.slice b N c, .int .i64 0]) ∧ Hid (NsAt w' b ((List.range N).map f)) ∧ Below w.heap.size w w'

set_option maxRecDepth 100000 in
set_option maxHeartbeats 8000000 in
theorem pGaps_ok (s t : Nat) (h1 : 1 ≤ s) (h6 : s ≤ 6) (ht : t < 8) (x y : Option Addr) (c d N : Nat) (hN : s * s = N) (l1 l2 : List Int) (hl1 : l1.length = N) (hl2 : l2.length = N) (ha : Pl.okH s l1 = true) (hb : Pl.okH s l2 = true) (w : World) (hx : NsAt w x l1) (hy : NsAt w y l2) :
    Calls Tryd.prog 10 #[.int .i64 (s : Int), .slice x N c, .slice y N d, .int .i64 (t : Int)] w (GpPost w N (Pl.gpF s t l1 l2)) := by
  have hs3 : s * s ≤ 36 := Nat.mul_le_mul h6 h6
  have hs1 : 1 ≤ s * s := Nat.mul_le_mul h1 h1
  have hs2 : ((s * s : Nat) : Int) = (s : Int) * (s : Int) := Int.natCast_mul _ _
  have hs4 : (s : Int) * (s : Int) ≤ 36 := by omega
  have hs5 : (0 : Int) ≤ (s : Int) * (s : Int) := by omega
  rw [hN] at hs3 hs1
  have H0 := Lib.hid (side_ok s h1 h6 w)
  have H1 := Lib.hid (heights_ok s x N c l1 hl1 (by omega) true ha w hx)
  have H2 := Lib.hid (heights_ok s y N d l2 hl2 (by omega) true hb w hy)
  have H3 := pTurn_any (t : Int) w
  rw [show Pl.ix (t : Int) 8 = true from decide_eq_true (by omega)] at H3
  replace H3 := Lib.hid H3
  have H4 := Lib.hid (sums_any s t h1 h6 ht x y c d N hN l1 l2 (Lib.hid hl1) (Lib.hid hl2) (Lib.hid (Pl.okH_spec ha).2) (Lib.hid (Pl.okH_spec hb).2) w (Lib.hid hx) (Lib.hid hy))
  have hbd := Pl.sms_bd h6 ht ha hb
  have hll := Pl.sms_len s t l1 l2
  have hgf : ∀ k, Pl.gpF s t l1 l2 k = Pl.mxT (Pl.sms s t l1 l2) (s * s) - (Pl.sms s t l1 l2).getD k 0 := fun _ => rfl
  rw [hN] at hll hgf
  obtain ⟨L, hL⟩ : ∃ L, Pl.sms s t l1 l2 = L := ⟨_, rfl⟩
  rw [hL] at H4 hbd hll hgf
  obtain ⟨G, hG⟩ : ∃ G, Pl.mxT L N = G := ⟨_, rfl⟩
  rw [hG] at hgf
  have hGb := Pl.mxT_bd (b := 2199023255552) (by omega) hbd N
  rw [hG] at hGb
  have hLb : Hid (∀ k, k < N → -2199023255552 ≤ L.getD k 0 ∧ L.getD k 0 ≤ 2199023255552) := Lib.hid (fun k hk => hbd _ (by rw [List.getD, List.getElem?_eq_getElem (by omega)]; exact List.getElem_mem _))
  replace hgf := Lib.hid hgf
  replace hll := Lib.hid hll
  replace hG := Lib.hid hG
  clear hbd hL hs2 ha hb hl1 hl2 hx hy hN
  go_enter Tryd.func10, Tryd.ntmps10
  go_wp2_with fail
  refine (H0.out).mono ?_
  rintro e w1 ⟨rfl, hw1⟩
  subst hw1
  go_wp2_with fail
  refine (H1.out).mono ?_
  rintro e w1 ⟨rfl, hw1⟩
  subst hw1
  go_wp2_with fail
  refine (H2.out).mono ?_
  rintro e w1 ⟨rfl, hw1⟩
  subst hw1
  go_wp2_with fail
  refine (H3.out).mono ?_
  rintro e w1 ⟨rfl, hw1⟩
  subst hw1
  go_wp2_with fail
  refine (H4.out).mono ?_
  rintro e w2 ⟨v, rfl, ho, hb2⟩
  obtain ⟨g, cp, rfl, hR, hg⟩ := rowF_of_owns hll.out (by omega) ho.out
  have H5 := max_any (some ⟨g, 0, none⟩) N cp L hll (by omega) (by omega) G hG w2 (Lib.hid (ns_of_row hR L hll.out (fun k hk => rfl)))
  replace H5 := Lib.hid H5
  clear ho H0 H1 H2 H3 H4
  go_wp2_with fail
  refine (H5.out).mono ?_
  rintro e w3 ⟨rfl, hw3⟩
  subst hw3
  clear H5
  go_wp2
  go_loopw [47] (fun iv wr => ∃ (k : Nat), k ≤ N ∧ iv = .int .i64 (k : Int) ∧ Hid (RowF wr g N (fun j => if j < k then G - L.getD j 0 else L.getD j 0)) ∧ Hid (Below w1.heap.size w1 wr)) (fun iv _ => N - (RowKit.intOf iv).toNat)
  case atStart => exact ⟨0, Nat.zero_le _, rfl, Lib.hid (by simpa using hR), Lib.hid hb2⟩
  case round =>
    clear hR hb2
    obtain ⟨k, hk, rfl, hR, hb⟩ := hrel
    by_cases hlt : k < N
    · have i2 : (k : Int) < (N : Int) := by omega
      have i3 : (0 : Int) ≤ (k : Int) := by omega
      obtain ⟨c1, f1⟩ := hR.out k hlt
      simp only [Nat.lt_irrefl, if_false] at c1
      have hz := hLb.out k hlt
      have hnew := hR.out.set k (G - L.getD k 0)
      have hcg : (fun j => if j = k then G - L.getD k 0 else if j < k then G - L.getD j 0 else L.getD j 0) = fun j => if j < k + 1 then G - L.getD j 0 else L.getD j 0 := by
        funext j
        by_cases e : j = k
        · subst e
          rw [if_pos rfl, if_pos (Nat.lt_succ_self _)]
        · by_cases e2 : j < k
          · rw [if_neg e, if_pos e2, if_pos (by omega)]
          · rw [if_neg e, if_neg e2, if_neg (by omega)]
      rw [hcg] at hnew
      obtain ⟨z, hz'⟩ : ∃ z, L.getD k 0 = z := ⟨_, rfl⟩
      rw [hz'] at c1 hz hnew
      replace hnew := Lib.hid hnew
      have hwz : IntKind.i64.wrap (G - z) = G - z := by rw [IntWalk.i64_left]; exact IntWalk.wrap64_in _ (by omega)
      have hbn := Lib.hid (hb.out.setCell (p := ⟨g, k, none⟩) hg (.int .i64 (G - z)))
      clear hcg hz' hR hb
      go_wp2
      go_roundw
      case rel => exact ⟨k + 1, by omega, by go_num, hnew, hbn⟩
      case measure => first | (simp [RowKit.intOf]; done) | (simp [RowKit.intOf]; omega) | omega
    · obtain rfl : k = N := by omega
      have i2 : ¬ (k : Int) < (k : Int) := by omega
      have hfin : Hid (NsAt wr (some ⟨g, 0, none⟩) ((List.range k).map (Pl.gpF s t l1 l2))) := Lib.hid (ns_of_row hR.out _ (by simp) (fun j hj => by
        have h9 : ((List.range k).map (Pl.gpF s t l1 l2)).getD j 0 = Pl.gpF s t l1 l2 j := by rw [List.getD, List.getElem?_map, List.getElem?_range hj]; rfl
        rw [if_pos hj, h9]
        exact (hgf.out j).symm))
      have hbz := hb.out
      clear hR hb hgf hLb hG hll
      go_wp2
      go_ret2
      exact ⟨_, _, rfl, hfin, hbz⟩

theorem turned_in (s t x : Nat) (h1 : 1 ≤ s) (h6 : s ≤ 6) (ht : t < 8) (hx : x < s * s) (u : Nat) (hu : Pl.tk s t x = u) (w : World) :
    Calls Tryd.prog 47 #[.int .i64 (s : Int), .int .i64 (t : Int), .int .i64 (x : Int)] w fun e w' => e = .returned (.int .i64 (u : Int)) ∧ w' = w := by
  have h := pTurned_any s t x h1 h6 ht hx w
  rw [Pl.turned_eq h6 hx ht, hu] at h
  exact h

/-- what Gaps of the specification leaves -/
def RgPost (w : World) (N : Nat) (f : Nat → Int) (e : Ending) (w' : World) : Prop :=
  ∃ b c, e = .returned (.slice b N c) ∧ Hid (NsAt w' b ((List.range N).map f)) ∧ Below w.heap.size w w'

set_option maxRecDepth 100000 in
set_option maxHeartbeats 8000000 in
theorem rGaps_any (s t : Nat) (h1 : 1 ≤ s) (h6 : s ≤ 6) (ht : t < 8) (x y : Option Addr) (c d N : Nat) (hN : s * s = N) (l1 l2 : List Int) (hl1 : l1.length = N) (hl2 : l2.length = N) (ha : Pl.okH s l1 = true) (hb : Pl.okH s l2 = true) (w : World) (hx : NsAt w x l1) (hy : NsAt w y l2) :
    Calls Tryd.prog 14 #[.int .i64 (s : Int), .slice x N c, .slice y N d, .int .i64 (t : Int)] w (RgPost w N (Pl.gpF s t l1 l2)) := by
  obtain ⟨i0, hi, hz0, hz1, hz2⟩ := info_parts infoI64
  have hs3 : s * s ≤ 36 := Nat.mul_le_mul h6 h6
  have hs1 : 1 ≤ s * s := Nat.mul_le_mul h1 h1
  have hs2 : ((s * s : Nat) : Int) = (s : Int) * (s : Int) := Int.natCast_mul _ _
  have hs4 : (s : Int) * (s : Int) ≤ 36 := by omega
  have hs5 : (0 : Int) ≤ (s : Int) * (s : Int) := by omega
  have HT := Lib.hid (fun (k u : Nat) (hk : k < N) (hu : Pl.tk s t k = u) (W : World) => turned_in s t k h1 h6 ht (by omega) u hu W)
  have htl : Hid (∀ k, k < N → Pl.tk s t k < N) := Lib.hid (fun k hk => by rw [← hN]; exact Pl.tk_lt h6 (by omega) ht)
  have hsa : Hid (∀ k, k < N → (Pl.sms s t l1 l2).getD k 0 = l1.getD k 0 + l2.getD (Pl.tk s t k) 0) := Lib.hid (fun k hk => Pl.sms_at l1 l2 (by omega))
  have hb1 : Hid (∀ k, k < N → -1099511627776 ≤ l1.getD k 0 ∧ l1.getD k 0 ≤ 1099511627776) := Lib.hid (fun k hk => (Pl.okH_spec ha).2 _ (by rw [List.getD, List.getElem?_eq_getElem (by omega)]; exact List.getElem_mem _))
  have hb2 : Hid (∀ k, k < N → -1099511627776 ≤ l2.getD k 0 ∧ l2.getD k 0 ≤ 1099511627776) := Lib.hid (fun k hk => (Pl.okH_spec hb).2 _ (by rw [List.getD, List.getElem?_eq_getElem (by omega)]; exact List.getElem_mem _))
  have hmb := Lib.hid (Pl.mxT_bd (b := 2199023255552) (by omega) (Pl.sms_bd h6 ht ha hb))
  have hgf : Hid (∀ k, Pl.gpF s t l1 l2 k = Pl.mxT (Pl.sms s t l1 l2) N - (Pl.sms s t l1 l2).getD k 0) := Lib.hid (fun k => by rw [← hN]; rfl)
  rw [hN] at hs3 hs1 hs2
  replace hs2 := Lib.hid hs2
  obtain ⟨L, hL⟩ : ∃ L, Pl.sms s t l1 l2 = L := ⟨_, rfl⟩
  rw [hL] at hsa hmb hgf
  clear hL ha hb hN
  -- the first cell
  obtain ⟨x', rfl, a0⟩ := hx 0 (by omega)
  obtain ⟨u0, hu0⟩ : ∃ u0, Pl.tk s t 0 = u0 := ⟨_, rfl⟩
  have hu0l := htl.out 0 (by omega)
  have hs00 := hsa.out 0 (by omega)
  have HT0 : Hid (∀ W, Calls Tryd.prog 47 #[.int .i64 (s : Int), .int .i64 (t : Int), .int .i64 0] W fun e w' => e = .returned (.int .i64 (u0 : Int)) ∧ w' = W) := Lib.hid (fun W => HT.out 0 u0 (by omega) hu0 W)
  have i0N : 0 < N := by omega
  rw [hu0] at hu0l hs00
  obtain ⟨y', rfl, e0⟩ := hy u0 (by omega)
  have v1 := hb1.out 0 (by omega)
  have v2 := hb2.out u0 hu0l
  obtain ⟨z1, hz1'⟩ : ∃ z1, l1.getD 0 0 = z1 := ⟨_, rfl⟩
  obtain ⟨z2, hz2'⟩ : ∃ z2, l2.getD u0 0 = z2 := ⟨_, rfl⟩
  rw [hz1'] at v1 hs00 a0
  rw [hz2'] at v2 hs00 e0
  have hm0 : Hid (Pl.mxT L 0 = z1 + z2) := Lib.hid hs00
  rw [show x'.add 0 = x' by unfold Addr.add; simp] at a0
  have hwz : IntKind.i64.wrap (z1 + z2) = z1 + z2 := by rw [IntWalk.i64_left]; exact IntWalk.wrap64_in _ (by omega)
  have i1 : (0 : Int) < (N : Int) := by omega
  have i2 : (0 : Int) ≤ (u0 : Int) := by omega
  have i3 : (u0 : Int) < (N : Int) := by omega
  replace hx := Lib.hid hx
  replace hy := Lib.hid hy
  clear hu0 hz1' hz2' hs00
  go_enter Tryd.func14, Tryd.ntmps14
  go_upto_region 1 with fail
  go_cut [9] from 13 to 22 (fun s9 wx => s9 = .int .i64 (z1 + z2) ∧ Hid (Below w.heap.size w wx))
  case first =>
    have S0 : w.drew.cell? x' = some (.int .i64 z1) ∧ w.drew.cell? (y'.add u0) = some (.int .i64 z2) := ⟨a0, e0⟩
    refine wp_region_held_drew (S := fun w' => w'.cell? x' = some (.int .i64 z1) ∧ w'.cell? (y'.add u0) = some (.int .i64 z2)) (by kernel_rfl) S0 (fun hHeld => ?_)
    refine wpAnyH_take (i := 0) (v := ?_) rfl (by kernel_rfl) (by kernel_rfl) (by kernel_rfl) (fun _ _ _ h => h) (Or.inl ⟨by rfl, ?_⟩) (by assumption) ?_
    rotate_left 1
    · (intro w hSw; (try dsimp only at hSw); go_simp; all_goals with_reducible rfl)
    try simp only [Act.put, List.setIfInBounds_toArray, List.set_cons_zero, List.set_cons_succ]
    refine wpAnyH_take (i := 1) (v := ?_) rfl (by kernel_rfl) (by kernel_rfl) (by kernel_rfl) (fun _ _ _ h => h) (Or.inl ⟨by rfl, ?_⟩) (by assumption) ?_
    rotate_left 1
    · (intro w hSw; (try dsimp only at hSw); go_simp; all_goals with_reducible rfl)
    try simp only [Act.put, List.setIfInBounds_toArray, List.set_cons_zero, List.set_cons_succ]
    refine wpAnyH_take (i := 2) (v := ?_) rfl (by kernel_rfl) (by kernel_rfl) (by kernel_rfl) (fun _ _ _ h => h) (Or.inl ⟨by rfl, ?_⟩) (by assumption) ?_
    rotate_left 1
    · (intro w hSw; (try dsimp only at hSw); go_simp; all_goals with_reducible rfl)
    try simp only [Act.put, List.setIfInBounds_toArray, List.set_cons_zero, List.set_cons_succ]
    refine wpAnyH_take (i := 3) (v := ?_) rfl (by kernel_rfl) (by kernel_rfl) (by kernel_rfl) (fun _ _ _ h => h) (Or.inl ⟨by rfl, ?_⟩) (by assumption) ?_
    rotate_left 1
    · (intro w hSw; (try dsimp only at hSw); go_simp; all_goals with_reducible rfl)
    try simp only [Act.put, List.setIfInBounds_toArray, List.set_cons_zero, List.set_cons_succ]
    refine wpAnyH_take (i := 4) (v := ?_) rfl (by kernel_rfl) (by kernel_rfl) (by kernel_rfl) (fun _ _ _ h => h) (Or.inl ⟨by rfl, ?_⟩) (by assumption) ?_
    rotate_left 1
    · (intro w hSw; (try dsimp only at hSw); go_simp; all_goals with_reducible rfl)
    try simp only [Act.put, List.setIfInBounds_toArray, List.set_cons_zero, List.set_cons_succ]
    refine wpAnyH_take (i := 5) (v := ?_) rfl (by kernel_rfl) (by kernel_rfl) (by kernel_rfl) (fun _ _ _ h => h) (Or.inl ⟨by rfl, ?_⟩) (by assumption) ?_
    rotate_left 1
    · (intro w hSw; (try dsimp only at hSw); go_simp; all_goals with_reducible rfl)
    try simp only [Act.put, List.setIfInBounds_toArray, List.set_cons_zero, List.set_cons_succ]
    try simp only [List.getElem_toArray, List.getElem_cons_succ, List.getElem_cons_zero, Act.put, List.setIfInBounds_toArray, List.set_cons_zero, List.set_cons_succ]
    refine wpAnyH_ready (rs := [6]) (by kernel_rfl) (by simp) ?_
    refine AllReadyH.cons rfl (fun K hK => ?_) ?_
    rotate_left 1
    · exact AllReadyH.nil
    go_simp
    with_reducible refine (HT0.out _).mono ?_
    rintro e w2 ⟨he, hw2⟩
    subst he hw2
    refine hK.out _ _ hHeld (fun hHeld2 => ?_)
    clear hK K
    try simp only [List.getElem_toArray, List.getElem_cons_succ, List.getElem_cons_zero, Act.put, List.setIfInBounds_toArray, List.set_cons_zero, List.set_cons_succ]
    refine wpAnyH_take (i := 7) (v := ?_) rfl (by kernel_rfl) (by kernel_rfl) (by kernel_rfl) (fun _ _ _ h => h) (Or.inl ⟨by rfl, ?_⟩) (by assumption) ?_
    rotate_left 1
    · (intro w hSw; (try dsimp only at hSw); go_simp; all_goals with_reducible rfl)
    try simp only [Act.put, List.setIfInBounds_toArray, List.set_cons_zero, List.set_cons_succ]
    refine wpAnyH_take (i := 8) (v := ?_) rfl (by kernel_rfl) (by kernel_rfl) (by kernel_rfl) (fun _ _ _ h => h) (Or.inl ⟨by rfl, ?_⟩) (by assumption) ?_
    rotate_left 1
    · (intro w hSw; (try dsimp only at hSw); go_simp; all_goals with_reducible rfl)
    try simp only [Act.put, List.setIfInBounds_toArray, List.set_cons_zero, List.set_cons_succ]
    refine wpAnyH_take (i := 9) (v := ?_) rfl (by kernel_rfl) (by kernel_rfl) (by kernel_rfl) (fun _ _ _ h => h) (Or.inl ⟨by rfl, ?_⟩) (by assumption) ?_
    rotate_left 1
    · (intro w hSw; (try dsimp only at hSw); go_simp; all_goals with_reducible rfl)
    try simp only [Act.put, List.setIfInBounds_toArray, List.set_cons_zero, List.set_cons_succ]
    refine wpAnyH_take (i := 10) (v := ?_) rfl (by kernel_rfl) (by kernel_rfl) (by kernel_rfl) (fun _ _ _ h => h) (Or.inl ⟨by rfl, ?_⟩) (by assumption) ?_
    rotate_left 1
    · (intro w hSw; (try dsimp only at hSw); go_simp; all_goals with_reducible rfl)
    try simp only [Act.put, List.setIfInBounds_toArray, List.set_cons_zero, List.set_cons_succ]
    try simp only [List.getElem_toArray, List.getElem_cons_succ, List.getElem_cons_zero, Act.put, List.setIfInBounds_toArray, List.set_cons_zero, List.set_cons_succ]
    refine wpAnyH_done (by kernel_rfl) ?_ _
    try simp only [List.getElem_toArray, List.getElem_cons_succ, List.getElem_cons_zero, Act.put, List.setIfInBounds_toArray, List.set_cons_zero, List.set_cons_succ]
    have hbd := Lib.hid ((Below.refl w.heap.size w).drew)
    clear S0 hHeld hHeld2
    go_wp2
    go_meet
    exact ⟨rfl, hbd⟩
  case rest =>
    obtain ⟨rfl, hV⟩ := hcut
    clear hwz v1 v2 HT0 a0 e0
    generalize wc = V at *
    rw [← hm0.out]
    go_wp2
    go_loopw [10, 9] (fun iv mv wr => ∃ (k : Nat), k ≤ N ∧ iv = .int .i64 (k : Int) ∧ mv = .int .i64 (Pl.mxT L k) ∧ Hid (Below w.heap.size w wr)) (fun iv _ _ => N - (RowKit.intOf iv).toNat)
    case atStart => exact ⟨0, Nat.zero_le _, rfl, rfl, hV⟩
    case round =>
      clear hV
      obtain ⟨k, hk, rfl, rfl, hb⟩ := hrel
      by_cases hlt : k < N
      · have j1 : (k : Int) < (s : Int) * (s : Int) := by rw [← hs2.out]; omega
        have j2 : (k : Int) < (N : Int) := by omega
        have j3 : (0 : Int) ≤ (k : Int) := by omega
        obtain ⟨x2, ex, c0⟩ := hx.out k (by omega)
        obtain rfl := Option.some.inj ex
        obtain ⟨u, hu⟩ : ∃ u, Pl.tk s t k = u := ⟨_, rfl⟩
        have hul := htl.out k hlt
        have hst : Pl.mxT L (k + 1) = max (Pl.mxT L k) (L.getD k 0) := rfl
        rw [hsa.out k hlt] at hst
        rw [hu] at hul hst
        have HT1 := Lib.hid (HT.out k u hlt hu)
        obtain ⟨y2, ey, c1⟩ := hy.out u (by omega)
        obtain rfl := Option.some.inj ey
        have v1 := hb1.out k hlt
        have v2 := hb2.out u hul
        obtain ⟨w1z, hw1z⟩ : ∃ z, l1.getD k 0 = z := ⟨_, rfl⟩
        obtain ⟨w2z, hw2z⟩ : ∃ z, l2.getD u 0 = z := ⟨_, rfl⟩
        rw [hw1z] at c0 v1 hst
        rw [hw2z] at c1 v2 hst
        obtain ⟨mm, hmm⟩ : ∃ mm, Pl.mxT L k = mm := ⟨_, rfl⟩
        rw [hmm] at hst ⊢
        have hwz : IntKind.i64.wrap (w1z + w2z) = w1z + w2z := by rw [IntWalk.i64_left]; exact IntWalk.wrap64_in _ (by omega)
        have j4 : (0 : Int) ≤ (u : Int) := by omega
        have j5 : (u : Int) < (N : Int) := by omega
        replace hst := Lib.hid hst
        clear hu hw1z hw2z hmm
        go_upto_region 5 with fail
        have S0 : wr.drew.cell? (x'.add k) = some (.int .i64 w1z) ∧ wr.drew.cell? (y'.add u) = some (.int .i64 w2z) := ⟨kept1 c0 hb.out.drew, kept1 c1 hb.out.drew⟩
        have hbd := Lib.hid (hb.out.drew)
        clear c0 c1 hb
        refine wp_region_held_drew (S := fun w' => w'.cell? (x'.add k) = some (.int .i64 w1z) ∧ w'.cell? (y'.add u) = some (.int .i64 w2z)) (by kernel_rfl) S0 (fun hHeld => ?_)
        refine wpAnyH_take (i := 0) (v := ?_) rfl (by kernel_rfl) (by kernel_rfl) (by kernel_rfl) (fun _ _ _ h => h) (Or.inl ⟨by rfl, ?_⟩) (by assumption) ?_
        rotate_left 1
        · (intro w hSw; (try dsimp only at hSw); go_simp; all_goals with_reducible rfl)
        try simp only [Act.put, List.setIfInBounds_toArray, List.set_cons_zero, List.set_cons_succ]
        refine wpAnyH_take (i := 1) (v := ?_) rfl (by kernel_rfl) (by kernel_rfl) (by kernel_rfl) (fun _ _ _ h => h) (Or.inl ⟨by rfl, ?_⟩) (by assumption) ?_
        rotate_left 1
        · (intro w hSw; (try dsimp only at hSw); go_simp; all_goals with_reducible rfl)
        try simp only [Act.put, List.setIfInBounds_toArray, List.set_cons_zero, List.set_cons_succ]
        refine wpAnyH_take (i := 2) (v := ?_) rfl (by kernel_rfl) (by kernel_rfl) (by kernel_rfl) (fun _ _ _ h => h) (Or.inl ⟨by rfl, ?_⟩) (by assumption) ?_
        rotate_left 1
        · (intro w hSw; (try dsimp only at hSw); go_simp; all_goals with_reducible rfl)
        try simp only [Act.put, List.setIfInBounds_toArray, List.set_cons_zero, List.set_cons_succ]
        refine wpAnyH_take (i := 3) (v := ?_) rfl (by kernel_rfl) (by kernel_rfl) (by kernel_rfl) (fun _ _ _ h => h) (Or.inl ⟨by rfl, ?_⟩) (by assumption) ?_
        rotate_left 1
        · (intro w hSw; (try dsimp only at hSw); go_simp; all_goals with_reducible rfl)
        try simp only [Act.put, List.setIfInBounds_toArray, List.set_cons_zero, List.set_cons_succ]
        refine wpAnyH_take (i := 4) (v := ?_) rfl (by kernel_rfl) (by kernel_rfl) (by kernel_rfl) (fun _ _ _ h => h) (Or.inl ⟨by rfl, ?_⟩) (by assumption) ?_
        rotate_left 1
        · (intro w hSw; (try dsimp only at hSw); go_simp; all_goals with_reducible rfl)
        try simp only [Act.put, List.setIfInBounds_toArray, List.set_cons_zero, List.set_cons_succ]
        refine wpAnyH_take (i := 5) (v := ?_) rfl (by kernel_rfl) (by kernel_rfl) (by kernel_rfl) (fun _ _ _ h => h) (Or.inl ⟨by rfl, ?_⟩) (by assumption) ?_
        rotate_left 1
        · (intro w hSw; (try dsimp only at hSw); go_simp; all_goals with_reducible rfl)
        try simp only [Act.put, List.setIfInBounds_toArray, List.set_cons_zero, List.set_cons_succ]
        refine wpAnyH_take (i := 6) (v := ?_) rfl (by kernel_rfl) (by kernel_rfl) (by kernel_rfl) (fun _ _ _ h => h) (Or.inl ⟨by rfl, ?_⟩) (by assumption) ?_
        rotate_left 1
        · (intro w hSw; (try dsimp only at hSw); go_simp; all_goals with_reducible rfl)
        try simp only [Act.put, List.setIfInBounds_toArray, List.set_cons_zero, List.set_cons_succ]
        refine wpAnyH_take (i := 7) (v := ?_) rfl (by kernel_rfl) (by kernel_rfl) (by kernel_rfl) (fun _ _ _ h => h) (Or.inl ⟨by rfl, ?_⟩) (by assumption) ?_
        rotate_left 1
        · (intro w hSw; (try dsimp only at hSw); go_simp; all_goals with_reducible rfl)
        try simp only [Act.put, List.setIfInBounds_toArray, List.set_cons_zero, List.set_cons_succ]
        refine wpAnyH_take (i := 8) (v := ?_) rfl (by kernel_rfl) (by kernel_rfl) (by kernel_rfl) (fun _ _ _ h => h) (Or.inl ⟨by rfl, ?_⟩) (by assumption) ?_
        rotate_left 1
        · (intro w hSw; (try dsimp only at hSw); go_simp; all_goals with_reducible rfl)
        try simp only [Act.put, List.setIfInBounds_toArray, List.set_cons_zero, List.set_cons_succ]
        try simp only [List.getElem_toArray, List.getElem_cons_succ, List.getElem_cons_zero, Act.put, List.setIfInBounds_toArray, List.set_cons_zero, List.set_cons_succ]
        refine wpAnyH_ready (rs := [9]) (by kernel_rfl) (by simp) ?_
        refine AllReadyH.cons rfl (fun K hK => ?_) ?_
        rotate_left 1
        · exact AllReadyH.nil
        go_simp
        with_reducible refine (HT1.out _).mono ?_
        rintro e w2 ⟨he, hw2⟩
        subst he hw2
        refine hK.out _ _ hHeld (fun hHeld2 => ?_)
        clear hK K
        try simp only [List.getElem_toArray, List.getElem_cons_succ, List.getElem_cons_zero, Act.put, List.setIfInBounds_toArray, List.set_cons_zero, List.set_cons_succ]
        refine wpAnyH_take (i := 10) (v := ?_) rfl (by kernel_rfl) (by kernel_rfl) (by kernel_rfl) (fun _ _ _ h => h) (Or.inl ⟨by rfl, ?_⟩) (by assumption) ?_
        rotate_left 1
        · (intro w hSw; (try dsimp only at hSw); go_simp; all_goals with_reducible rfl)
        try simp only [Act.put, List.setIfInBounds_toArray, List.set_cons_zero, List.set_cons_succ]
        refine wpAnyH_take (i := 11) (v := ?_) rfl (by kernel_rfl) (by kernel_rfl) (by kernel_rfl) (fun _ _ _ h => h) (Or.inl ⟨by rfl, ?_⟩) (by assumption) ?_
        rotate_left 1
        · (intro w hSw; (try dsimp only at hSw); go_simp; all_goals with_reducible rfl)
        try simp only [Act.put, List.setIfInBounds_toArray, List.set_cons_zero, List.set_cons_succ]
        refine wpAnyH_take (i := 12) (v := ?_) rfl (by kernel_rfl) (by kernel_rfl) (by kernel_rfl) (fun _ _ _ h => h) (Or.inl ⟨by rfl, ?_⟩) (by assumption) ?_
        rotate_left 1
        · (intro w hSw; (try dsimp only at hSw); go_simp; all_goals with_reducible rfl)
        try simp only [Act.put, List.setIfInBounds_toArray, List.set_cons_zero, List.set_cons_succ]
        try simp only [List.getElem_toArray, List.getElem_cons_succ, List.getElem_cons_zero, Act.put, List.setIfInBounds_toArray, List.set_cons_zero, List.set_cons_succ]
        refine wpAnyH_ready (rs := [13]) (by kernel_rfl) (by simp) ?_
        refine AllReadyH.cons rfl (fun K hK => ?_) ?_
        rotate_left 1
        · exact AllReadyH.nil
        go_simp
        refine hK.out _ _ hHeld2 (fun hHeld3 => ?_)
        clear hK K
        try simp only [List.getElem_toArray, List.getElem_cons_succ, List.getElem_cons_zero, Act.put, List.setIfInBounds_toArray, List.set_cons_zero, List.set_cons_succ]
        refine wpAnyH_take (i := 14) (v := ?_) rfl (by kernel_rfl) (by kernel_rfl) (by kernel_rfl) (fun _ _ _ h => h) (Or.inl ⟨by rfl, ?_⟩) (by assumption) ?_
        rotate_left 1
        · (intro w hSw; (try dsimp only at hSw); go_simp; all_goals with_reducible rfl)
        try simp only [Act.put, List.setIfInBounds_toArray, List.set_cons_zero, List.set_cons_succ]
        try simp only [List.getElem_toArray, List.getElem_cons_succ, List.getElem_cons_zero, Act.put, List.setIfInBounds_toArray, List.set_cons_zero, List.set_cons_succ]
        refine wpAnyH_done (by kernel_rfl) ?_ _
        try simp only [List.getElem_toArray, List.getElem_cons_succ, List.getElem_cons_zero, Act.put, List.setIfInBounds_toArray, List.set_cons_zero, List.set_cons_succ]
        clear S0 hHeld hHeld2 hHeld3 HT1
        generalize wr.drew = D at *
        go_wp2
        go_roundw
        case rel => exact ⟨k + 1, by omega, by go_num, by rw [hst.out], hbd⟩
        case measure => first | (simp [RowKit.intOf]; done) | (simp [RowKit.intOf]; omega) | omega
      · obtain rfl : k = N := by omega
        have j1 : ¬ (k : Int) < (s : Int) * (s : Int) := by rw [← hs2.out]; omega
        have hGb := hmb.out k
        obtain ⟨G, hG⟩ : ∃ G, Pl.mxT L k = G := ⟨_, rfl⟩
        rw [hG] at hgf hGb ⊢
        clear hG hmb hm0
        go_wp2
        go_loopw [12, 11] (fun iv v W => ∃ (j : Nat), j ≤ k ∧ iv = .int .i64 (j : Int) ∧ Hid (W.ownsRow w.heap.size 3 1 v j (((List.range j).map (Pl.gpF s t l1 l2)).map fun z => Value.int .i64 z)) ∧ Hid (Below w.heap.size w W)) (fun iv _ _ => k - (RowKit.intOf iv).toNat)
        case atStart => exact ⟨0, Nat.zero_le _, rfl, Lib.hid (World.ownsRow_nil _ _ _ _), hb⟩
        case round =>
          clear hb
          obtain ⟨j, hj, rfl, ho, hb⟩ := hrel
          by_cases hlt2 : j < k
          · have j1 : (j : Int) < (s : Int) * (s : Int) := by rw [← hs2.out]; omega
            have j2 : (j : Int) < (k : Int) := by omega
            have j3 : (0 : Int) ≤ (j : Int) := by omega
            obtain ⟨x2, ex, c0⟩ := hx.out j (by omega)
            obtain rfl := Option.some.inj ex
            obtain ⟨u, hu⟩ : ∃ u, Pl.tk s t j = u := ⟨_, rfl⟩
            have hul := htl.out j hlt2
            have hst := hgf.out j
            rw [hsa.out j hlt2] at hst
            rw [hu] at hul hst
            have HT1 := Lib.hid (HT.out j u hlt2 hu)
            obtain ⟨y2, ey, c1⟩ := hy.out u (by omega)
            obtain rfl := Option.some.inj ey
            have v1 := hb1.out j hlt2
            have v2 := hb2.out u hul
            obtain ⟨w1z, hw1z⟩ : ∃ z, l1.getD j 0 = z := ⟨_, rfl⟩
            obtain ⟨w2z, hw2z⟩ : ∃ z, l2.getD u 0 = z := ⟨_, rfl⟩
            rw [hw1z] at c0 v1 hst
            rw [hw2z] at c1 v2 hst
            have hlst : Hid (((List.range (j + 1)).map (Pl.gpF s t l1 l2)).map (fun z => Value.int .i64 z) = ((List.range j).map (Pl.gpF s t l1 l2)).map (fun z => Value.int .i64 z) ++ [.int .i64 (G - w1z - w2z)]) := Lib.hid (by
              rw [List.range_succ, List.map_append, List.map_append]
              have h9 : Pl.gpF s t l1 l2 j = G - w1z - w2z := by rw [hst]; omega
              simp only [List.map_cons, List.map_nil, h9])
            have hwa : IntKind.i64.wrap (G - w1z) = G - w1z := by rw [IntWalk.i64_left]; exact IntWalk.wrap64_in _ (by omega)
            have hwb : IntKind.i64.wrap (G - w1z - w2z) = G - w1z - w2z := by rw [IntWalk.i64_left]; exact IntWalk.wrap64_in _ (by omega)
            have j4 : (0 : Int) ≤ (u : Int) := by omega
            have j5 : (u : Int) < (k : Int) := by omega
            obtain ⟨XS, hXS⟩ : ∃ XS, (((List.range j).map (Pl.gpF s t l1 l2)).map fun z => Value.int .i64 z) = XS := ⟨_, rfl⟩
            rw [hXS] at ho hlst
            obtain ⟨pv, cv, rfl⟩ := ownForm ho.out
            clear hu hw1z hw2z hst hXS
            go_upto_region 10 with fail
            have S0 : wr.drew.cell? (x'.add j) = some (.int .i64 w1z) ∧ wr.drew.cell? (y'.add u) = some (.int .i64 w2z) := ⟨kept1 c0 hb.out.drew, kept1 c1 hb.out.drew⟩
            have hbd := Lib.hid (hb.out.drew)
            have o9 := ho.out.drew
            clear c0 c1 hb ho
            refine region_head_held 16 (fun w' => w'.cell? (x'.add j) = some (.int .i64 w1z) ∧ w'.cell? (y'.add u) = some (.int .i64 w2z)) (by kernel_rfl) (by kernel_rfl) S0 (fun hHeld => ?_)
            generalize wr.drew = D at *
            simp only [List.take_succ_cons, List.take_zero, List.drop_succ_cons, List.drop_zero]
            refine wpAnyH_take (i := 0) (v := ?_) rfl (by kernel_rfl) (by kernel_rfl) (by kernel_rfl) (fun _ _ _ h => h) (Or.inl ⟨by rfl, ?_⟩) (by assumption) ?_
            rotate_left 1
            · (intro w hSw; (try dsimp only at hSw); go_simp; all_goals with_reducible rfl)
            try simp only [Act.put, List.setIfInBounds_toArray, List.set_cons_zero, List.set_cons_succ]
            refine wpAnyH_take (i := 1) (v := ?_) rfl (by kernel_rfl) (by kernel_rfl) (by kernel_rfl) (fun _ _ _ h => h) (Or.inl ⟨by rfl, ?_⟩) (by assumption) ?_
            rotate_left 1
            · (intro w hSw; (try dsimp only at hSw); go_simp; all_goals with_reducible rfl)
            try simp only [Act.put, List.setIfInBounds_toArray, List.set_cons_zero, List.set_cons_succ]
            refine wpAnyH_take (i := 2) (v := ?_) rfl (by kernel_rfl) (by kernel_rfl) (by kernel_rfl) (fun _ _ _ h => h) (Or.inl ⟨by rfl, ?_⟩) (by assumption) ?_
            rotate_left 1
            · (intro w hSw; (try dsimp only at hSw); go_simp; all_goals with_reducible rfl)
            try simp only [Act.put, List.setIfInBounds_toArray, List.set_cons_zero, List.set_cons_succ]
            refine wpAnyH_take (i := 3) (v := ?_) rfl (by kernel_rfl) (by kernel_rfl) (by kernel_rfl) (fun _ _ _ h => h) (Or.inl ⟨by rfl, ?_⟩) (by assumption) ?_
            rotate_left 1
            · (intro w hSw; (try dsimp only at hSw); go_simp; all_goals with_reducible rfl)
            try simp only [Act.put, List.setIfInBounds_toArray, List.set_cons_zero, List.set_cons_succ]
            refine wpAnyH_take (i := 4) (v := ?_) rfl (by kernel_rfl) (by kernel_rfl) (by kernel_rfl) (fun _ _ _ h => h) (Or.inl ⟨by rfl, ?_⟩) (by assumption) ?_
            rotate_left 1
            · (intro w hSw; (try dsimp only at hSw); go_simp; all_goals with_reducible rfl)
            try simp only [Act.put, List.setIfInBounds_toArray, List.set_cons_zero, List.set_cons_succ]
            refine wpAnyH_take (i := 5) (v := ?_) rfl (by kernel_rfl) (by kernel_rfl) (by kernel_rfl) (fun _ _ _ h => h) (Or.inl ⟨by rfl, ?_⟩) (by assumption) ?_
            rotate_left 1
            · (intro w hSw; (try dsimp only at hSw); go_simp; all_goals with_reducible rfl)
            try simp only [Act.put, List.setIfInBounds_toArray, List.set_cons_zero, List.set_cons_succ]
            refine wpAnyH_take (i := 6) (v := ?_) rfl (by kernel_rfl) (by kernel_rfl) (by kernel_rfl) (fun _ _ _ h => h) (Or.inl ⟨by rfl, ?_⟩) (by assumption) ?_
            rotate_left 1
            · (intro w hSw; (try dsimp only at hSw); go_simp; all_goals with_reducible rfl)
            try simp only [Act.put, List.setIfInBounds_toArray, List.set_cons_zero, List.set_cons_succ]
            refine wpAnyH_take (i := 7) (v := ?_) rfl (by kernel_rfl) (by kernel_rfl) (by kernel_rfl) (fun _ _ _ h => h) (Or.inl ⟨by rfl, ?_⟩) (by assumption) ?_
            rotate_left 1
            · (intro w hSw; (try dsimp only at hSw); go_simp; all_goals with_reducible rfl)
            try simp only [Act.put, List.setIfInBounds_toArray, List.set_cons_zero, List.set_cons_succ]
            refine wpAnyH_take (i := 8) (v := ?_) rfl (by kernel_rfl) (by kernel_rfl) (by kernel_rfl) (fun _ _ _ h => h) (Or.inl ⟨by rfl, ?_⟩) (by assumption) ?_
            rotate_left 1
            · (intro w hSw; (try dsimp only at hSw); go_simp; all_goals with_reducible rfl)
            try simp only [Act.put, List.setIfInBounds_toArray, List.set_cons_zero, List.set_cons_succ]
            refine wpAnyH_take (i := 9) (v := ?_) rfl (by kernel_rfl) (by kernel_rfl) (by kernel_rfl) (fun _ _ _ h => h) (Or.inl ⟨by rfl, ?_⟩) (by assumption) ?_
            rotate_left 1
            · (intro w hSw; (try dsimp only at hSw); go_simp; all_goals with_reducible rfl)
            try simp only [Act.put, List.setIfInBounds_toArray, List.set_cons_zero, List.set_cons_succ]
            refine wpAnyH_take (i := 10) (v := ?_) rfl (by kernel_rfl) (by kernel_rfl) (by kernel_rfl) (fun _ _ _ h => h) (Or.inl ⟨by rfl, ?_⟩) (by assumption) ?_
            rotate_left 1
            · (intro w hSw; (try dsimp only at hSw); go_simp; all_goals with_reducible rfl)
            try simp only [Act.put, List.setIfInBounds_toArray, List.set_cons_zero, List.set_cons_succ]
            try simp only [List.getElem_toArray, List.getElem_cons_succ, List.getElem_cons_zero, Act.put, List.setIfInBounds_toArray, List.set_cons_zero, List.set_cons_succ]
            refine wpAnyH_ready (rs := [11]) (by kernel_rfl) (by simp) ?_
            refine AllReadyH.cons rfl (fun K hK => ?_) ?_
            rotate_left 1
            · exact AllReadyH.nil
            go_simp
            with_reducible refine (HT1.out _).mono ?_
            rintro e w2 ⟨he, hw2⟩
            subst he hw2
            refine hK.out _ _ hHeld (fun hHeld2 => ?_)
            clear hK K
            try simp only [List.getElem_toArray, List.getElem_cons_succ, List.getElem_cons_zero, Act.put, List.setIfInBounds_toArray, List.set_cons_zero, List.set_cons_succ]
            refine wpAnyH_take (i := 12) (v := ?_) rfl (by kernel_rfl) (by kernel_rfl) (by kernel_rfl) (fun _ _ _ h => h) (Or.inl ⟨by rfl, ?_⟩) (by assumption) ?_
            rotate_left 1
            · (intro w hSw; (try dsimp only at hSw); go_simp; all_goals with_reducible rfl)
            try simp only [Act.put, List.setIfInBounds_toArray, List.set_cons_zero, List.set_cons_succ]
            refine wpAnyH_take (i := 13) (v := ?_) rfl (by kernel_rfl) (by kernel_rfl) (by kernel_rfl) (fun _ _ _ h => h) (Or.inl ⟨by rfl, ?_⟩) (by assumption) ?_
            rotate_left 1
            · (intro w hSw; (try dsimp only at hSw); go_simp; all_goals with_reducible rfl)
            try simp only [Act.put, List.setIfInBounds_toArray, List.set_cons_zero, List.set_cons_succ]
            refine wpAnyH_take (i := 14) (v := ?_) rfl (by kernel_rfl) (by kernel_rfl) (by kernel_rfl) (fun _ _ _ h => h) (Or.inl ⟨by rfl, ?_⟩) (by assumption) ?_
            rotate_left 1
            · (intro w hSw; (try dsimp only at hSw); go_simp; all_goals with_reducible rfl)
            try simp only [Act.put, List.setIfInBounds_toArray, List.set_cons_zero, List.set_cons_succ]
            try simp only [List.getElem_toArray, List.getElem_cons_succ, List.getElem_cons_zero, Act.put, List.setIfInBounds_toArray, List.set_cons_zero, List.set_cons_succ]
            have hba := below_alloc (Below.refl w2.heap.size w2) (Obj.cells #[.int .i64 (G - w1z - w2z)] 3)
            have S4 : (w2.alloc (Obj.cells #[.int .i64 (G - w1z - w2z)] 3)).cell? (x'.add j) = some (.int .i64 w1z) ∧ (w2.alloc (Obj.cells #[.int .i64 (G - w1z - w2z)] 3)).cell? (y'.add u) = some (.int .i64 w2z) := ⟨kept1 hHeld2.1 hba, kept1 hHeld2.2 hba⟩
            refine wpAnyH_ready (rs := [15]) (by kernel_rfl) (by simp) ?_
            refine AllReadyH.cons rfl (fun K hK => ?_) ?_
            rotate_left 1
            · exact AllReadyH.nil
            go_simp
            refine hK.out _ _ S4 (fun hHeld3 => ?_)
            clear hK K
            try simp only [List.getElem_toArray, List.getElem_cons_succ, List.getElem_cons_zero, Act.put, List.setIfInBounds_toArray, List.set_cons_zero, List.set_cons_succ]
            refine wpAnyH_done (by kernel_rfl) ?_ _
            show wpList _ _ _ _ _ _
            clear S0 S4 hba hHeld hHeld2 hHeld3 HT1 hwa hwb
            have hsz := hbd.out.size
            refine wpList_append_own_at _ rfl (.tmp 51) (.tmp 66) 22 rfl w.heap.size 3 i0 (.int .i64 0) 1 8 Tryd.underlying22 hi hz0 hz1 hz2 rfl (by decide) _ _ _ rfl (o9.alloc _) ⟨w2.heap.size, 0, none⟩ 1 1 [.int .i64 (G - w1z - w2z)] rfl rfl ?c1 ?c2 ?c3 ?c4 ?c5 ?_
            case c1 => first | (intro j u hj; match j, hj with | 0, hj => (simp at hj; subst hj; simp [Addr.add])) | (simp [Addr.add, go_sem])
            case c2 => first | rfl | (intro u hu; simp at hu; subst hu; rfl)
            case c3 => unfold maxLen; omega
            case c4 => omega
            case c5 => first | omega | (simp; omega)
            intro v'' w4 hown' hgrow hnn hat
            rw [← hlst.out] at hown'
            have hbn := Lib.hid ((below_alloc hbd.out (Obj.cells #[.int .i64 (G - w1z - w2z)] 3)).grown hgrow (by simp; omega) (fun g hg => ownFar o9 hg))
            replace hown' := Lib.hid hown'
            clear hgrow hnn hat o9 hbd hlst
            go_wp2
            go_roundw
            case rel => exact ⟨j + 1, by omega, by go_num, hown', hbn⟩
            case measure => first | (simp [RowKit.intOf]; done) | (simp [RowKit.intOf]; omega) | omega
          · obtain rfl : j = k := by omega
            have j1 : ¬ (j : Int) < (s : Int) * (s : Int) := by rw [← hs2.out]; omega
            obtain ⟨ba, bc, rfl, hN9, _⟩ := ns_of_ownsZ (n := j) (l := (List.range j).map (Pl.gpF s t l1 l2)) (by simp) ho.out
            replace hN9 := Lib.hid hN9
            have hbz := hb.out
            clear ho hb hgf hsa HT htl hb1 hb2
            go_wp2
            go_ret
            exact ⟨_, _, rfl, hN9, hbz⟩
end Go.Proofs.YtidcedilfhmllaaDoor
