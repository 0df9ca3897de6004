/- The law PlateGaps: Gaps against the specification. Written by genLPa.py. -/
import Derived.Test.YtidcedilfhmllaaDoorZ29
import Derived.Test.YtidcedilfhmllaaDoorZJlp
import Derived.Test.YtidcedilfhmllaaDoorZJnp
import Derived.Test.YtidcedilfhmllaaDoorZJgc
import Derived.Test.YtidcedilfhmllaaDoorZJu
set_option linter.unusedSimpArgs false
set_option linter.unusedVariables false
namespace Go.Proofs.YtidcedilfhmllaaDoor
open Go.RowKit
set_option linter.unusedVariables false
set_option linter.unusedSimpArgs false

theorem in_is (x a b : Int) (R : Bool) (h : decide (a ≤ x ∧ x ≤ b) = R) (w : World) :
    Calls Tryd.prog 11 #[.int .i64 x, .int .i64 a, .int .i64 b] w fun e w' => e = .returned (.bool R) ∧ w' = w := by
  subst h
  exact rIn_any x a b w

set_option maxRecDepth 100000 in
set_option maxHeartbeats 4000000 in
theorem gaps_wide1 (side turn : Int) (x : Option Addr) (n c : Nat) (l1 : List Int) (hn : Hid (l1.length = n)) (y : Option Addr) (m d : Nat) (l2 : List Int) (hm : Hid (l2.length = m)) (w : World) (hx : Hid (NsAt w x l1)) (hy : Hid (NsAt w y l2)) (hT : Hid (Tab w.heap.size w)) (h : 40 < n) :
    Calls Tryd.prog 3 #[.int .i64 side, .slice x n c, .slice y m d, .int .i64 turn] w (LawPost w) := by
  have HS := Lib.hid (fun (W : World) (hb : Below w.heap.size w W) => sanityP_any W (Lib.hid (Tab.mono (hT.out.on hb) hb.size)))
  have i1 : (40 : Int) < (n : Int) := by omega
  have hX := Below.refl w.heap.size w
  go_enter Tryd.func3, Tryd.ntmps3
  go_wp2_with fail
  refine (HS.out _ hX).mono ?_
  rintro e w9 ⟨rfl, hb9⟩
  replace hX := hX.trans (hb9.mono hX.size)
  clear hb9
  go_wp2
  go_ret
  exact ⟨rfl, hX⟩
set_option maxRecDepth 100000 in
set_option maxHeartbeats 4000000 in
theorem gaps_wide2 (side turn : Int) (x : Option Addr) (n c : Nat) (l1 : List Int) (hn : Hid (l1.length = n)) (y : Option Addr) (m d : Nat) (l2 : List Int) (hm : Hid (l2.length = m)) (w : World) (hx : Hid (NsAt w x l1)) (hy : Hid (NsAt w y l2)) (hT : Hid (Tab w.heap.size w)) (h0 : ¬ 40 < n) (h : 40 < m) :
    Calls Tryd.prog 3 #[.int .i64 side, .slice x n c, .slice y m d, .int .i64 turn] w (LawPost w) := by
  have HS := Lib.hid (fun (W : World) (hb : Below w.heap.size w W) => sanityP_any W (Lib.hid (Tab.mono (hT.out.on hb) hb.size)))
  have i1 : ¬ (40 : Int) < (n : Int) := by omega
  have i2 : (40 : Int) < (m : Int) := by omega
  have hX := Below.refl w.heap.size w
  go_enter Tryd.func3, Tryd.ntmps3
  go_wp2_with fail
  refine (HS.out _ hX).mono ?_
  rintro e w9 ⟨rfl, hb9⟩
  replace hX := hX.trans (hb9.mono hX.size)
  clear hb9
  go_wp2
  go_ret
  exact ⟨rfl, hX⟩
set_option maxRecDepth 100000 in
set_option maxHeartbeats 4000000 in
theorem gaps_noA (side turn : Int) (x : Option Addr) (n c : Nat) (l1 : List Int) (hn : Hid (l1.length = n)) (y : Option Addr) (m d : Nat) (l2 : List Int) (hm : Hid (l2.length = m)) (w : World) (hx : Hid (NsAt w x l1)) (hy : Hid (NsAt w y l2)) (hT : Hid (Tab w.heap.size w)) (h40 : ¬ 40 < n) (h41 : ¬ 40 < m) (hsd : Pl.sd side = false) :
    Calls Tryd.prog 3 #[.int .i64 side, .slice x n c, .slice y m d, .int .i64 turn] w (LawPost w) := by
  have HS := Lib.hid (fun (W : World) (hb : Below w.heap.size w W) => sanityP_any W (Lib.hid (Tab.mono (hT.out.on hb) hb.size)))
  have i1 : ¬ (40 : Int) < (n : Int) := by omega
  have i2 : ¬ (40 : Int) < (m : Int) := by omega
  have HF := Lib.hid (pGaps_noA side turn hsd x y n m c d l1 l2 hn.out hm.out (by omega) (by omega) w hx.out hy.out)
  have H0 := Lib.hid (fun (W : World) => in_is side 1 6 false hsd W)
  go_enter Tryd.func3, Tryd.ntmps3
  go_wp2_with fail
  refine (HF.out).mono ?_
  rintro e w1 ⟨rfl, hX⟩
  go_wp2_with fail
  refine (H0.out _).mono ?_
  rintro e w2 ⟨rfl, hw2⟩
  subst hw2
  clear HF H0
  go_wp2_with fail
  refine (HS.out _ hX).mono ?_
  rintro e w9 ⟨rfl, hb9⟩
  replace hX := hX.trans (hb9.mono hX.size)
  clear hb9
  go_wp2
  go_ret
  exact ⟨rfl, hX⟩
set_option maxRecDepth 100000 in
set_option maxHeartbeats 4000000 in
theorem gaps_noB (s : Nat) (turn : Int) (h1 : 1 ≤ s) (h6 : s ≤ 6) (x : Option Addr) (n c : Nat) (l1 : List Int) (hn : Hid (l1.length = n)) (y : Option Addr) (m d : Nat) (l2 : List Int) (hm : Hid (l2.length = m)) (w : World) (hx : Hid (NsAt w x l1)) (hy : Hid (NsAt w y l2)) (hT : Hid (Tab w.heap.size w)) (h40 : ¬ 40 < n) (h41 : ¬ 40 < m) (ha : Pl.okH s l1 = false) :
    Calls Tryd.prog 3 #[.int .i64 (s : Int), .slice x n c, .slice y m d, .int .i64 turn] w (LawPost w) := by
  have HS := Lib.hid (fun (W : World) (hb : Below w.heap.size w W) => sanityP_any W (Lib.hid (Tab.mono (hT.out.on hb) hb.size)))
  have i1 : ¬ (40 : Int) < (n : Int) := by omega
  have i2 : ¬ (40 : Int) < (m : Int) := by omega
  have HF := Lib.hid (pGaps_noB s turn h1 h6 x y n m c d l1 l2 hn.out hm.out (by omega) (by omega) w hx.out hy.out ha)
  have H0 := Lib.hid (fun (W : World) => in_is (s : Int) 1 6 true (decide_eq_true (by omega)) W)
  have H1 := Lib.hid (fun (W : World) (hbW : Below w.heap.size w W) => rHeights_any s h6 x n c l1 hn (by omega) false (Lib.hid ha) W (Lib.hid (hx.out.below hbW)))
  go_enter Tryd.func3, Tryd.ntmps3
  go_wp2_with fail
  refine (HF.out).mono ?_
  rintro e w1 ⟨rfl, hX⟩
  go_wp2_with fail
  refine (H0.out _).mono ?_
  rintro e w2 ⟨rfl, hw2⟩
  subst hw2
  go_wp2_with fail
  refine (H1.out _ hX).mono ?_
  rintro e w2 ⟨rfl, hw2⟩
  subst hw2
  clear HF H0 H1
  go_wp2_with fail
  refine (HS.out _ hX).mono ?_
  rintro e w9 ⟨rfl, hb9⟩
  replace hX := hX.trans (hb9.mono hX.size)
  clear hb9
  go_wp2
  go_ret
  exact ⟨rfl, hX⟩
set_option maxRecDepth 100000 in
set_option maxHeartbeats 4000000 in
theorem gaps_noC (s : Nat) (turn : Int) (h1 : 1 ≤ s) (h6 : s ≤ 6) (x : Option Addr) (n c : Nat) (l1 : List Int) (hn : Hid (l1.length = n)) (y : Option Addr) (m d : Nat) (l2 : List Int) (hm : Hid (l2.length = m)) (w : World) (hx : Hid (NsAt w x l1)) (hy : Hid (NsAt w y l2)) (hT : Hid (Tab w.heap.size w)) (h40 : ¬ 40 < n) (h41 : ¬ 40 < m) (ha : Pl.okH s l1 = true) (hb : Pl.okH s l2 = false) :
    Calls Tryd.prog 3 #[.int .i64 (s : Int), .slice x n c, .slice y m d, .int .i64 turn] w (LawPost w) := by
  have HS := Lib.hid (fun (W : World) (hb : Below w.heap.size w W) => sanityP_any W (Lib.hid (Tab.mono (hT.out.on hb) hb.size)))
  have i1 : ¬ (40 : Int) < (n : Int) := by omega
  have i2 : ¬ (40 : Int) < (m : Int) := by omega
  have HF := Lib.hid (pGaps_noC s turn h1 h6 x y n m c d l1 l2 hn.out hm.out (by omega) (by omega) w hx.out hy.out ha hb)
  have H0 := Lib.hid (fun (W : World) => in_is (s : Int) 1 6 true (decide_eq_true (by omega)) W)
  have H1 := Lib.hid (fun (W : World) (hbW : Below w.heap.size w W) => rHeights_any s h6 x n c l1 hn (by omega) true (Lib.hid ha) W (Lib.hid (hx.out.below hbW)))
  have H2 := Lib.hid (fun (W : World) (hbW : Below w.heap.size w W) => rHeights_any s h6 y m d l2 hm (by omega) false (Lib.hid hb) W (Lib.hid (hy.out.below hbW)))
  go_enter Tryd.func3, Tryd.ntmps3
  go_wp2_with fail
  refine (HF.out).mono ?_
  rintro e w1 ⟨rfl, hX⟩
  go_wp2_with fail
  refine (H0.out _).mono ?_
  rintro e w2 ⟨rfl, hw2⟩
  subst hw2
  go_wp2_with fail
  refine (H1.out _ hX).mono ?_
  rintro e w2 ⟨rfl, hw2⟩
  subst hw2
  go_wp2_with fail
  refine (H2.out _ hX).mono ?_
  rintro e w2 ⟨rfl, hw2⟩
  subst hw2
  clear HF H0 H1 H2
  go_wp2_with fail
  refine (HS.out _ hX).mono ?_
  rintro e w9 ⟨rfl, hb9⟩
  replace hX := hX.trans (hb9.mono hX.size)
  clear hb9
  go_wp2
  go_ret
  exact ⟨rfl, hX⟩
set_option maxRecDepth 100000 in
set_option maxHeartbeats 4000000 in
theorem gaps_noD (s : Nat) (turn : Int) (h1 : 1 ≤ s) (h6 : s ≤ 6) (x : Option Addr) (n c : Nat) (l1 : List Int) (hn : Hid (l1.length = n)) (y : Option Addr) (m d : Nat) (l2 : List Int) (hm : Hid (l2.length = m)) (w : World) (hx : Hid (NsAt w x l1)) (hy : Hid (NsAt w y l2)) (hT : Hid (Tab w.heap.size w)) (h40 : ¬ 40 < n) (h41 : ¬ 40 < m) (ha : Pl.okH s l1 = true) (hb : Pl.okH s l2 = true) (ht : Pl.ix turn 8 = false) :
    Calls Tryd.prog 3 #[.int .i64 (s : Int), .slice x n c, .slice y m d, .int .i64 turn] w (LawPost w) := by
  have HS := Lib.hid (fun (W : World) (hb : Below w.heap.size w W) => sanityP_any W (Lib.hid (Tab.mono (hT.out.on hb) hb.size)))
  have i1 : ¬ (40 : Int) < (n : Int) := by omega
  have i2 : ¬ (40 : Int) < (m : Int) := by omega
  have HF := Lib.hid (pGaps_noD s turn h1 h6 x y n m c d l1 l2 hn.out hm.out (by omega) (by omega) w hx.out hy.out ha hb ht)
  have H0 := Lib.hid (fun (W : World) => in_is (s : Int) 1 6 true (decide_eq_true (by omega)) W)
  have H1 := Lib.hid (fun (W : World) (hbW : Below w.heap.size w W) => rHeights_any s h6 x n c l1 hn (by omega) true (Lib.hid ha) W (Lib.hid (hx.out.below hbW)))
  have H2 := Lib.hid (fun (W : World) (hbW : Below w.heap.size w W) => rHeights_any s h6 y m d l2 hm (by omega) true (Lib.hid hb) W (Lib.hid (hy.out.below hbW)))
  have H3 := Lib.hid (fun (W : World) => in_is turn 0 7 false (decide_eq_false (fun h => by have := of_decide_eq_false ht; omega)) W)
  go_enter Tryd.func3, Tryd.ntmps3
  go_wp2_with fail
  refine (HF.out).mono ?_
  rintro e w1 ⟨rfl, hX⟩
  go_wp2_with fail
  refine (H0.out _).mono ?_
  rintro e w2 ⟨rfl, hw2⟩
  subst hw2
  go_wp2_with fail
  refine (H1.out _ hX).mono ?_
  rintro e w2 ⟨rfl, hw2⟩
  subst hw2
  go_wp2_with fail
  refine (H2.out _ hX).mono ?_
  rintro e w2 ⟨rfl, hw2⟩
  subst hw2
  go_wp2_with fail
  refine (H3.out _).mono ?_
  rintro e w2 ⟨rfl, hw2⟩
  subst hw2
  clear HF H0 H1 H2 H3
  go_wp2_with fail
  refine (HS.out _ hX).mono ?_
  rintro e w9 ⟨rfl, hb9⟩
  replace hX := hX.trans (hb9.mono hX.size)
  clear hb9
  go_wp2
  go_ret
  exact ⟨rfl, hX⟩
set_option maxRecDepth 100000 in
set_option maxHeartbeats 4000000 in
theorem gaps_ok (s t : Nat) (h1 : 1 ≤ s) (h6 : s ≤ 6) (ht : t < 8) (N : Nat) (hN : s * s = N) (x : Option Addr) (c : Nat) (l1 : List Int) (hn : Hid (l1.length = N)) (y : Option Addr) (d : Nat) (l2 : List Int) (hm : Hid (l2.length = N)) (w : World) (hx : Hid (NsAt w x l1)) (hy : Hid (NsAt w y l2)) (hT : Hid (Tab w.heap.size w)) (ha : Pl.okH s l1 = true) (hb : Pl.okH s l2 = true) :
    Calls Tryd.prog 3 #[.int .i64 (s : Int), .slice x N c, .slice y N d, .int .i64 (t : Int)] w (LawPost w) := by
  have HS := Lib.hid (fun (W : World) (hb : Below w.heap.size w W) => sanityP_any W (Lib.hid (Tab.mono (hT.out.on hb) hb.size)))
  have hs3 : s * s ≤ 36 := Nat.mul_le_mul h6 h6
  rw [hN] at hs3
  have i1 : ¬ (40 : Int) < (N : Int) := by omega
  have HF := Lib.hid (pGaps_ok s t h1 h6 ht x y c d N hN l1 l2 hn.out hm.out ha hb w hx.out hy.out)
  have H0 := Lib.hid (fun (W : World) => in_is (s : Int) 1 6 true (decide_eq_true (by omega)) W)
  have H1 := Lib.hid (fun (W : World) (hb : Below w.heap.size w W) => rHeights_any s h6 x N c l1 hn (by omega) true (Lib.hid ha) W (Lib.hid (hx.out.below hb)))
  have H2 := Lib.hid (fun (W : World) (h9 : Below w.heap.size w W) => rHeights_any s h6 y N d l2 hm (by omega) true (Lib.hid hb) W (Lib.hid (hy.out.below h9)))
  have H3 := Lib.hid (fun (W : World) => in_is (t : Int) 0 7 true (decide_eq_true (by omega)) W)
  have H4 := Lib.hid (fun (W : World) (h9 : Below w.heap.size w W) => rGaps_any s t h1 h6 ht x y c d N hN l1 l2 hn.out hm.out ha hb W (hx.out.below h9) (hy.out.below h9))
  obtain ⟨G, hG⟩ : ∃ G, (List.range N).map (Pl.gpF s t l1 l2) = G := ⟨_, rfl⟩
  have hGl : G.length = N := by rw [← hG]; simp
  have H4' : Hid (∀ (W : World), Below w.heap.size w W → Calls Tryd.prog 14 #[.int .i64 (s : Int), .slice x N c, .slice y N d, .int .i64 (t : Int)] W fun e w' => ∃ b c, e = .returned (.slice b N c) ∧ Hid (NsAt w' b G) ∧ Below W.heap.size W w') := Lib.hid (fun W h9 => (H4.out W h9).mono fun e w' h => by
    obtain ⟨b, c, h2, h3, h4⟩ := h
    rw [hG] at h3
    exact ⟨b, c, h2, h3, h4⟩)
  have HF' : Hid (Calls Tryd.prog 10 #[.int .i64 (s : Int), .slice x N c, .slice y N d, .int .i64 (t : Int)] w fun e w' => ∃ b c, e = .returned (.tuple #[.slice b N c, .int .i64 0]) ∧ Hid (NsAt w' b G) ∧ Below w.heap.size w w') := Lib.hid (HF.out.mono fun e w' h => by
    obtain ⟨b, c, h2, h3, h4⟩ := h
    rw [hG] at h3
    exact ⟨b, c, h2, h3, h4⟩)
  have H5 := Lib.hid (fun (b1 b2 : Option Addr) (c1 c2 : Nat) (W : World) (g1 : Hid (NsAt W b1 G)) (g2 : Hid (NsAt W b2 G)) => sameInts_eq b1 b2 N c1 c2 G hGl (by omega) W g1.out g2.out)
  clear hG HF H4 hGl hx hy hT ha hb hN hn hm
  go_enter Tryd.func3, Tryd.ntmps3
  go_wp2_with fail
  refine (HF'.out).mono ?_
  rintro e w1 ⟨b1, c1, rfl, g1, hX⟩
  clear HF'
  go_wp2_with fail
  refine (H0.out _).mono ?_
  rintro e w2 ⟨rfl, hw2⟩
  subst hw2
  go_wp2_with fail
  refine (H1.out _ hX).mono ?_
  rintro e w2 ⟨rfl, hw2⟩
  subst hw2
  go_wp2_with fail
  refine (H2.out _ hX).mono ?_
  rintro e w2 ⟨rfl, hw2⟩
  subst hw2
  go_wp2_with fail
  refine (H3.out _).mono ?_
  rintro e w2 ⟨rfl, hw2⟩
  subst hw2
  clear H0 H1 H2 H3
  go_wp2_with fail
  refine (HS.out _ hX).mono ?_
  rintro e w3 ⟨rfl, hb9⟩
  replace hX := hX.trans (hb9.mono hX.size)
  replace g1 := Lib.hid (g1.out.below hb9)
  clear hb9 HS
  go_wp2_with fail
  refine (H4'.out _ hX).mono ?_
  rintro e w4 ⟨b2, c2, rfl, g2, hb9⟩
  replace hX := hX.trans (hb9.mono hX.size)
  replace g1 := Lib.hid (g1.out.below hb9)
  clear hb9 H4'
  go_wp2_with fail
  refine (H5.out _ _ _ _ _ g1 g2).mono ?_
  rintro e w5 ⟨rfl, hb9⟩
  replace hX := hX.trans (hb9.mono hX.size)
  clear H5 g1 g2 hb9
  go_wp2
  go_ret
  exact ⟨rfl, hX⟩

/-- the law, its arguments in the frame's order -/
theorem plateGaps_true (w : World) (side : Int) (x : Option Addr) (n c : Nat) (l1 : List Int) (hn : Hid (l1.length = n)) (hx : Hid (NsAt w x l1)) (hi1 : Hid (∀ g ∈ l1, -9223372036854775808 ≤ g ∧ g ≤ 9223372036854775807)) (y : Option Addr) (m d : Nat) (l2 : List Int) (hm : Hid (l2.length = m)) (hy : Hid (NsAt w y l2)) (hi2 : Hid (∀ g ∈ l2, -9223372036854775808 ≤ g ∧ g ≤ 9223372036854775807)) (turn : Int) (hT : Hid (Tab w.heap.size w)) :
    Calls Tryd.prog 3 #[.int .i64 side, .slice x n c, .slice y m d, .int .i64 turn] w (LawPost w) := by
  by_cases h40 : 40 < n
  · exact gaps_wide1 side turn x n c l1 hn y m d l2 hm w hx hy hT h40
  by_cases h41 : 40 < m
  · exact gaps_wide2 side turn x n c l1 hn y m d l2 hm w hx hy hT h40 h41
  cases hsd : Pl.sd side
  · exact gaps_noA side turn x n c l1 hn y m d l2 hm w hx hy hT h40 h41 hsd
  have h9 := of_decide_eq_true hsd
  obtain ⟨s, rfl⟩ : ∃ s : Nat, side = s := ⟨side.toNat, by omega⟩
  have h1 : 1 ≤ s := by omega
  have h6 : s ≤ 6 := by omega
  cases ha : Pl.okH s l1
  · exact gaps_noB s turn h1 h6 x n c l1 hn y m d l2 hm w hx hy hT h40 h41 ha
  cases hb : Pl.okH s l2
  · exact gaps_noC s turn h1 h6 x n c l1 hn y m d l2 hm w hx hy hT h40 h41 ha hb
  cases ht : Pl.ix turn 8
  · exact gaps_noD s turn h1 h6 x n c l1 hn y m d l2 hm w hx hy hT h40 h41 ha hb ht
  have h10 := of_decide_eq_true ht
  obtain ⟨t, rfl⟩ : ∃ t : Nat, turn = t := ⟨turn.toNat, by omega⟩
  obtain rfl : n = s * s := by rw [← hn.out]; exact (Pl.okH_spec ha).1
  obtain rfl : m = s * s := by rw [← hm.out]; exact (Pl.okH_spec hb).1
  exact gaps_ok s t h1 h6 (by omega) _ rfl x c l1 hn y d l2 hm w hx hy hT ha hb
end Go.Proofs.YtidcedilfhmllaaDoor
