/- What the claims of layer 3 share, part 4: several texts one behind the other. -/
import Derived.Test.YtidcedilfhmllaaDoorZ01
import Derived.Test.YtidcedilfhmllaaDoorZ03
set_option linter.unusedSimpArgs false
set_option linter.unusedVariables false
/- Contracts of package plate: the small functions. -/
namespace Pl
/-- an index of several things; a side; a turn; whether a turn reflects; the working of a step -/
def ix (i c : Int) : Bool := decide (0 ≤ i ∧ i < c)
def sd (i : Int) : Bool := decide (1 ≤ i ∧ i ≤ 6)
def rfs (i : Int) : Bool := decide (4 ≤ i)
def wof (i : Int) : Int := if i < 0 then -1 - i else i
end Pl
namespace Go.Proofs.YtidcedilfhmllaaDoor
open Go.RowKit

set_option maxHeartbeats 400000 in
theorem pIndex_any (i c : Int) (w : World) :
    Calls Tryd.prog 67 #[.int .i64 i, .int .i64 c] w fun e w' => e = .returned (.bool (Pl.ix i c)) ∧ w' = w := by
  by_cases h1 : 0 ≤ i
  · by_cases h2 : i < c
    · go_enter Tryd.func67, Tryd.ntmps67
      go_wp2
      go_ret
      exact ⟨ret_bool (by simp [Pl.ix, Pl.sd, h1, h2]), rfl⟩
    · go_enter Tryd.func67, Tryd.ntmps67
      go_wp2
      go_ret
      exact ⟨ret_bool (by simp [Pl.ix, Pl.sd, h2]), rfl⟩
  · go_enter Tryd.func67, Tryd.ntmps67
    go_wp2
    go_ret
    exact ⟨ret_bool (decide_eq_false (fun h => by omega)).symm, rfl⟩

set_option maxHeartbeats 400000 in
theorem pSide_any (i : Int) (w : World) :
    Calls Tryd.prog 42 #[.int .i64 i] w fun e w' => e = .returned (.bool (Pl.sd i)) ∧ w' = w := by
  by_cases h1 : 1 ≤ i
  · by_cases h2 : i ≤ 6
    · go_enter Tryd.func42, Tryd.ntmps42
      go_wp2
      go_ret
      exact ⟨ret_bool (by simp [Pl.ix, Pl.sd, h1, h2]), rfl⟩
    · go_enter Tryd.func42, Tryd.ntmps42
      go_wp2
      go_ret
      exact ⟨ret_bool (by simp [Pl.ix, Pl.sd, h2]), rfl⟩
  · go_enter Tryd.func42, Tryd.ntmps42
    go_wp2
    go_ret
    exact ⟨ret_bool (decide_eq_false (fun h => by omega)).symm, rfl⟩

set_option maxHeartbeats 400000 in
theorem pTurn_any (i : Int) (w : World) :
    Calls Tryd.prog 44 #[.int .i64 i] w fun e w' => e = .returned (.bool (Pl.ix i 8)) ∧ w' = w := by
  have H := Lib.hid (pIndex_any i 8)
  go_enter Tryd.func44, Tryd.ntmps44
  go_wp2_with fail
  refine (H.out _).mono ?_
  rintro e w1 ⟨rfl, rfl⟩
  go_wp2
  go_ret
  exact ⟨rfl, rfl⟩

set_option maxHeartbeats 400000 in
theorem pReflects_any (i : Int) (w : World) :
    Calls Tryd.prog 84 #[.int .i64 i] w fun e w' => e = .returned (.bool (Pl.rfs i)) ∧ w' = w := by
  by_cases h1 : 4 ≤ i
  · go_enter Tryd.func84, Tryd.ntmps84
    go_wp2
    go_ret
    exact ⟨ret_bool (decide_eq_true h1).symm, rfl⟩
  · go_enter Tryd.func84, Tryd.ntmps84
    go_wp2
    go_ret
    exact ⟨ret_bool (decide_eq_false (by omega)).symm, rfl⟩

set_option maxHeartbeats 1000000 in
theorem pWorkingOf_any (i : Int) (h0 : -9223372036854775808 ≤ i) (h1 : i ≤ 9223372036854775807) (w : World) :
    Calls Tryd.prog 85 #[.int .i64 i] w fun e w' => e = .returned (.int .i64 (Pl.wof i)) ∧ w' = w := by
  by_cases h : i < 0
  · go_enter Tryd.func85, Tryd.ntmps85
    go_wp2
    go_ret
    exact ⟨ret_i64 (by unfold Pl.wof; rw [if_pos h]), rfl⟩
  · go_enter Tryd.func85, Tryd.ntmps85
    go_wp2
    go_ret
    exact ⟨ret_i64 (by unfold Pl.wof; rw [if_neg (by omega)]), rfl⟩

set_option maxHeartbeats 1000000 in
theorem pInverse_any (a : Nat) (ha : a < 8) (w : World) :
    Calls Tryd.prog 61 #[.int .i64 (a : Int)] w fun e w' => e = .returned (.int .i64 (Pl.inv a : Nat)) ∧ w' = w := by
  have i1 : (0 : Int) ≤ (a : Int) := by omega
  have i2 : (a : Int) < 8 := by omega
  have H := pReflects_any (a : Int)
  by_cases h : 4 ≤ a
  · rw [show Pl.rfs (a : Int) = true from decide_eq_true (by omega)] at H
    replace H := Lib.hid H
    go_enter Tryd.func61, Tryd.ntmps61
    go_wp2_with fail
    refine (H.out _).mono ?_
    rintro e w1 ⟨rfl, rfl⟩
    go_wp2
    go_ret
    exact ⟨ret_i64 (by unfold Pl.inv; rw [if_pos h]), rfl⟩
  · rw [show Pl.rfs (a : Int) = false from decide_eq_false (by omega)] at H
    replace H := Lib.hid H
    go_enter Tryd.func61, Tryd.ntmps61
    go_wp2_with fail
    refine (H.out _).mono ?_
    rintro e w1 ⟨rfl, rfl⟩
    go_wp2
    go_ret
    exact ⟨ret_i64 (by unfold Pl.inv; rw [if_neg h]; omega), rfl⟩

set_option maxHeartbeats 2000000 in
theorem pCompose_any (a b : Nat) (ha : a < 8) (hb : b < 8) (w : World) :
    Calls Tryd.prog 60 #[.int .i64 (a : Int), .int .i64 (b : Int)] w fun e w' => e = .returned (.int .i64 (Pl.cmp a b : Nat)) ∧ w' = w := by
  have i1 : (0 : Int) ≤ (a : Int) := by omega
  have i2 : (a : Int) < 8 := by omega
  have i3 : (0 : Int) ≤ (b : Int) := by omega
  have i4 : (b : Int) < 8 := by omega
  have HA := pReflects_any (a : Int)
  have HB := pReflects_any (b : Int)
  by_cases h : 4 ≤ a
  · rw [show Pl.rfs (a : Int) = true from decide_eq_true (by omega)] at HA
    replace HA := Lib.hid HA
    by_cases k : 4 ≤ b
    · rw [show Pl.rfs (b : Int) = true from decide_eq_true (by omega)] at HB
      replace HB := Lib.hid HB
      go_enter Tryd.func60, Tryd.ntmps60
      go_wp2_with fail
      refine (HA.out _).mono ?_
      rintro e w1 ⟨rfl, rfl⟩
      go_wp2_with fail
      refine (HA.out _).mono ?_
      rintro e w1 ⟨rfl, rfl⟩
      go_wp2_with fail
      refine (HB.out _).mono ?_
      rintro e w1 ⟨rfl, rfl⟩
      go_wp2
      go_ret
      exact ⟨ret_i64 (by unfold Pl.cmp; simp only [h, k]; first | (simp; done) | (simp; omega)), rfl⟩
    · rw [show Pl.rfs (b : Int) = false from decide_eq_false (by omega)] at HB
      replace HB := Lib.hid HB
      go_enter Tryd.func60, Tryd.ntmps60
      go_wp2_with fail
      refine (HA.out _).mono ?_
      rintro e w1 ⟨rfl, rfl⟩
      go_wp2_with fail
      refine (HA.out _).mono ?_
      rintro e w1 ⟨rfl, rfl⟩
      go_wp2_with fail
      refine (HB.out _).mono ?_
      rintro e w1 ⟨rfl, rfl⟩
      go_wp2
      go_ret
      exact ⟨ret_i64 (by unfold Pl.cmp; simp only [h, k]; first | (simp; done) | (simp; omega)), rfl⟩
  · rw [show Pl.rfs (a : Int) = false from decide_eq_false (by omega)] at HA
    replace HA := Lib.hid HA
    by_cases k : 4 ≤ b
    · rw [show Pl.rfs (b : Int) = true from decide_eq_true (by omega)] at HB
      replace HB := Lib.hid HB
      go_enter Tryd.func60, Tryd.ntmps60
      go_wp2_with fail
      refine (HA.out _).mono ?_
      rintro e w1 ⟨rfl, rfl⟩
      go_wp2_with fail
      refine (HA.out _).mono ?_
      rintro e w1 ⟨rfl, rfl⟩
      go_wp2_with fail
      refine (HB.out _).mono ?_
      rintro e w1 ⟨rfl, rfl⟩
      go_wp2
      go_ret
      exact ⟨ret_i64 (by unfold Pl.cmp; simp only [h, k]; first | (simp; done) | (simp; omega)), rfl⟩
    · rw [show Pl.rfs (b : Int) = false from decide_eq_false (by omega)] at HB
      replace HB := Lib.hid HB
      go_enter Tryd.func60, Tryd.ntmps60
      go_wp2_with fail
      refine (HA.out _).mono ?_
      rintro e w1 ⟨rfl, rfl⟩
      go_wp2_with fail
      refine (HA.out _).mono ?_
      rintro e w1 ⟨rfl, rfl⟩
      go_wp2_with fail
      refine (HB.out _).mono ?_
      rintro e w1 ⟨rfl, rfl⟩
      go_wp2
      go_ret
      exact ⟨ret_i64 (by unfold Pl.cmp; simp only [h, k]; first | (simp; done) | (simp; omega)), rfl⟩
end Go.Proofs.YtidcedilfhmllaaDoor

/- Contracts of package plate: Check. -/
namespace Go.Proofs.YtidcedilfhmllaaDoor
open Go.RowKit

/-- a working that lies at an address -/
def WkAt (w : World) (p : Addr) (l : Pl.Wk) : Prop := w.cell? p = some (.int .i64 l.a) ∧ w.cell? ⟨p.block, p.off + 1, none⟩ = some (.int .i64 l.b) ∧ w.cell? ⟨p.block, p.off + 2, none⟩ = some (.int .i64 l.t)
theorem WkAt.below {w W : World} {p : Addr} {l : Pl.Wk} (h : WkAt w p l) (hb : Below w.heap.size w W) : WkAt W p l := ⟨kept1 h.1 hb, kept1 h.2.1 hb, kept1 h.2.2 hb⟩
/-- workings that lie in a row -/
def WksAt (w : World) (a : Option Addr) (L : List Pl.Wk) : Prop := ∀ k, k < L.length → ∃ x, a = some x ∧ WkAt w (x.add (k * 3)) (L.getD k Pl.noW)
theorem WksAt.below {w W : World} {a : Option Addr} {L : List Pl.Wk} (h : WksAt w a L) (hb : Below w.heap.size w W) : WksAt W a L := fun k hk => by
  obtain ⟨x, hx, h1⟩ := h k hk
  exact ⟨x, hx, h1.below hb⟩
/-- a shop, as a value -/
def shV (s m : Int) (a : Option Addr) (q cap : Nat) : Value := .agg #[.int .i64 s, .int .i64 m, .slice a q cap]

theorem okW_ix {m f t mo : Int} : Pl.okW m ⟨f, t, mo⟩ = (Pl.ix f m && (Pl.ix t m && (!(f == t) && Pl.ix mo 8))) := by
  rw [Bool.eq_iff_iff]
  unfold Pl.okW Pl.ix
  simp only [Bool.and_eq_true, decide_eq_true_eq, Bool.not_eq_true', beq_eq_false_iff_ne]
  omega
theorem all_step {m : Int} {W : List Pl.Wk} {k : Nat} (h : k < W.length) : (W.drop k).all (Pl.okW m) = (Pl.okW m (W.getD k Pl.noW) && (W.drop (k + 1)).all (Pl.okW m)) := by
  rw [List.drop_eq_getElem_cons h, List.all_cons, List.getD, List.getElem?_eq_getElem h]
  rfl

set_option maxRecDepth 100000 in
set_option maxHeartbeats 4000000 in
theorem pCheck_loop (s m : Int) (a : Option Addr) (cap : Nat) (L : List Pl.Wk) (q : Nat) (hq : Hid (L.length = q)) (h0 : Pl.sd s = true) (h1 : ¬ m < 1) (h2 : ¬ 6 < m) (h3 : ¬ (16 : Int) < (q : Int)) (w : World) (hL : Hid (WksAt w a L)) :
    Calls Tryd.prog 62 #[.agg #[.int .i64 s, .int .i64 m, .slice a q cap]] w fun e w' => e = .returned (.int .i64 (if L.all (Pl.okW m) then 0 else 1)) ∧ Below w.heap.size w w' := by
  obtain ⟨r, hr⟩ : ∃ r, L.all (Pl.okW m) = r := ⟨_, rfl⟩
  rw [hr]
  have hr0 : Hid (r = (L.drop 0).all (Pl.okW m)) := Lib.hid (by rw [List.drop_zero]; exact hr.symm)
  have hq3 : q ≤ 16 := by omega
  have HS := pSide_any s
  rw [h0] at HS
  replace HS := Lib.hid HS
  clear hr h0
  go_enter Tryd.func62, Tryd.ntmps62
  go_wp2_with fail
  refine (HS.out _).mono ?_
  rintro e w1 ⟨rfl, hw1⟩
  have k0 : w1.cell? ⟨w.heap.size, 0, none⟩ = some (.int .i64 s) := by rw [hw1]; simp [go_sem]
  have k1 : w1.cell? ⟨w.heap.size, 1, none⟩ = some (.int .i64 m) := by rw [hw1]; simp [go_sem]
  have k2 : w1.cell? ⟨w.heap.size, 2, none⟩ = some (.slice a q cap) := by rw [hw1]; simp [go_sem]
  have hbw : Below w.heap.size w w1 := by rw [hw1]; exact below_alloc (Below.refl _ _) _
  clear hw1 k0 HS
  go_wp2
  go_loopw [26] (fun i wr => ∃ k : Nat, k ≤ q ∧ i = .int .i64 k ∧ wr.cell? ⟨w.heap.size, 1, none⟩ = some (.int .i64 m) ∧ Below w.heap.size w wr ∧ w.heap.size < wr.heap.size ∧ Hid (r = (L.drop k).all (Pl.okW m))) (fun i _ => q - (RowKit.intOf i).toNat)
  case atStart => exact ⟨0, Nat.zero_le _, rfl, k1, hbw, block_lt_of_cell k1, hr0⟩
  case round =>
    clear hr0 hbw k1 k2
    obtain ⟨k, hk, rfl, hn, hb, hsz, hbad⟩ := hrel
    by_cases hlt : k < q
    · obtain ⟨f, t, mo, hl⟩ : ∃ f t mo, L.getD k Pl.noW = ⟨f, t, mo⟩ := ⟨_, _, _, rfl⟩
      have hkL : k < L.length := by have := hq.out; omega
      obtain ⟨x, rfl, hl3⟩ := hL.out k hkL
      have ⟨hc0, hc1, hc2⟩ := hl3.below hb
      have hst := all_step (m := m) hkL
      rw [hl] at hc0 hc1 hc2 hst
      simp only at hc0 hc1 hc2
      clear hl3 hl
      have hi5 : (k : Int) < (q : Int) := by omega
      have H1 := pIndex_any f m
      have H2 := pIndex_any t m
      have H3 := pTurn_any mo
      rw [okW_ix] at hst
      have hsz2 : w.heap.size < wr.heap.size := hsz
      cases e1 : Pl.ix f m
      · rw [e1] at H1 hst
        have hb9 : r = false := by rw [hbad.out, hst]; rfl
        subst hb9
        clear hbad hst H2 H3
        replace H1 := Lib.hid H1
        go_wp2_with fail
        refine (H1.out _).mono ?_
        rintro e w2 ⟨rfl, hw2⟩
        subst hw2
        go_wp2
        go_ret
        exact ⟨rfl, (by repeat (first | with_reducible exact Below.refl _ _ | with_reducible assumption | refine below_drewN ?_ _ | refine Below.drew ?_ | refine Below.alloc ?_ (by first | (simp; done) | (simp; omega) | omega) _ | refine Below.setCell ?_ (by first | (simp; done) | (simp; omega) | omega) _ | refine Below.trans ?_ (Below.mono (by assumption) (by first | (simp; done) | (simp; omega) | omega))))⟩
      · rw [e1] at H1 hst
        cases e2 : Pl.ix t m
        · rw [e2] at H2 hst
          have hb9 : r = false := by rw [hbad.out, hst]; rfl
          subst hb9
          clear hbad hst H3
          replace H1 := Lib.hid H1
          replace H2 := Lib.hid H2
          go_wp2_with fail
          refine (H1.out _).mono ?_
          rintro e w2 ⟨rfl, hw2⟩
          subst hw2
          go_wp2_with fail
          refine (H2.out _).mono ?_
          rintro e w2 ⟨rfl, hw2⟩
          subst hw2
          go_wp2
          go_ret
          exact ⟨rfl, (by repeat (first | with_reducible exact Below.refl _ _ | with_reducible assumption | refine below_drewN ?_ _ | refine Below.drew ?_ | refine Below.alloc ?_ (by first | (simp; done) | (simp; omega) | omega) _ | refine Below.setCell ?_ (by first | (simp; done) | (simp; omega) | omega) _ | refine Below.trans ?_ (Below.mono (by assumption) (by first | (simp; done) | (simp; omega) | omega))))⟩
        · rw [e2] at H2 hst
          cases e3 : (f == t)
          · rw [e3] at hst
            cases e4 : Pl.ix mo 8
            · rw [e4] at H3 hst
              have hb9 : r = false := by rw [hbad.out, hst]; rfl
              subst hb9
              clear hbad hst
              replace H1 := Lib.hid H1
              replace H2 := Lib.hid H2
              replace H3 := Lib.hid H3
              go_wp2_with fail
              refine (H1.out _).mono ?_
              rintro e w2 ⟨rfl, hw2⟩
              subst hw2
              go_wp2_with fail
              refine (H2.out _).mono ?_
              rintro e w2 ⟨rfl, hw2⟩
              subst hw2
              go_wp2_with fail
              refine (H3.out _).mono ?_
              rintro e w2 ⟨rfl, hw2⟩
              subst hw2
              go_wp2
              go_ret
              exact ⟨rfl, (by repeat (first | with_reducible exact Below.refl _ _ | with_reducible assumption | refine below_drewN ?_ _ | refine Below.drew ?_ | refine Below.alloc ?_ (by first | (simp; done) | (simp; omega) | omega) _ | refine Below.setCell ?_ (by first | (simp; done) | (simp; omega) | omega) _ | refine Below.trans ?_ (Below.mono (by assumption) (by first | (simp; done) | (simp; omega) | omega))))⟩
            · rw [e4] at H3 hst
              have hb9 : Hid (r = (L.drop (k + 1)).all (Pl.okW m)) := Lib.hid (by rw [hbad.out, hst]; rfl)
              clear hbad hst
              replace H1 := Lib.hid H1
              replace H2 := Lib.hid H2
              replace H3 := Lib.hid H3
              have hnA := cell_alloc hn (Obj.cells #[.int .i64 f, .int .i64 t, .int .i64 mo] 61)
              have hbA := below_alloc hb (Obj.cells #[.int .i64 f, .int .i64 t, .int .i64 mo] 61)
              go_wp2_with fail
              refine (H1.out _).mono ?_
              rintro e w2 ⟨rfl, hw2⟩
              subst hw2
              go_wp2_with fail
              refine (H2.out _).mono ?_
              rintro e w2 ⟨rfl, hw2⟩
              subst hw2
              go_wp2_with fail
              refine (H3.out _).mono ?_
              rintro e w2 ⟨rfl, hw2⟩
              subst hw2
              go_wp2
              go_roundw
              case rel => exact ⟨k + 1, by omega, by go_num, hnA, hbA, block_lt_of_cell hnA, hb9⟩
              case measure => first | (simp [RowKit.intOf]; done) | (simp [RowKit.intOf]; omega) | omega
          · rw [e3] at hst
            have hb9 : r = false := by rw [hbad.out, hst]; rfl
            subst hb9
            have hft : f = t := by simpa using e3
            subst hft
            clear hbad hst e2 e3
            replace H1 := Lib.hid H1
            go_wp2_with fail
            refine (H1.out _).mono ?_
            rintro e w2 ⟨rfl, hw2⟩
            subst hw2
            go_wp2_with fail
            refine (H1.out _).mono ?_
            rintro e w2 ⟨rfl, hw2⟩
            subst hw2
            go_wp2
            go_ret
            exact ⟨rfl, (by repeat (first | with_reducible exact Below.refl _ _ | with_reducible assumption | refine below_drewN ?_ _ | refine Below.drew ?_ | refine Below.alloc ?_ (by first | (simp; done) | (simp; omega) | omega) _ | refine Below.setCell ?_ (by first | (simp; done) | (simp; omega) | omega) _ | refine Below.trans ?_ (Below.mono (by assumption) (by first | (simp; done) | (simp; omega) | omega))))⟩
    · obtain rfl : k = q := by omega
      have hi5 : ¬ (k : Int) < (k : Int) := by omega
      rw [List.drop_of_length_le (by have := hq.out; omega)] at hbad
      have hb9 : r = true := hbad.out
      subst hb9
      clear hbad
      go_wp2
      go_ret
      exact ⟨rfl, hb⟩

set_option maxHeartbeats 1000000 in
theorem pCheck_bad (s m : Int) (a : Option Addr) (q cap : Nat) (h : Pl.sd s = false ∨ m < 1 ∨ 6 < m) (w : World) :
    Calls Tryd.prog 62 #[.agg #[.int .i64 s, .int .i64 m, .slice a q cap]] w fun e w' => e = .returned (.int .i64 1) ∧ Below w.heap.size w w' := by
  have HS := pSide_any s
  cases e1 : Pl.sd s
  · rw [e1] at HS
    replace HS := Lib.hid HS
    clear h
    go_enter Tryd.func62, Tryd.ntmps62
    go_wp2_with fail
    refine (HS.out _).mono ?_
    rintro e w1 ⟨rfl, hw1⟩
    subst hw1
    go_wp2
    go_ret
    exact ⟨rfl, (by repeat (first | with_reducible exact Below.refl _ _ | with_reducible assumption | refine below_drewN ?_ _ | refine Below.drew ?_ | refine Below.alloc ?_ (by first | (simp; done) | (simp; omega) | omega) _ | refine Below.setCell ?_ (by first | (simp; done) | (simp; omega) | omega) _ | refine Below.trans ?_ (Below.mono (by assumption) (by first | (simp; done) | (simp; omega) | omega))))⟩
  · rw [e1] at HS h
    replace HS := Lib.hid HS
    have h2 : m < 1 ∨ (¬ m < 1 ∧ 6 < m) := by
      rcases h with h | h | h
      · cases h
      · exact .inl h
      · exact .inr ⟨by omega, h⟩
    clear h
    rcases h2 with h2 | ⟨h2, h3⟩
    · go_enter Tryd.func62, Tryd.ntmps62
      go_wp2_with fail
      refine (HS.out _).mono ?_
      rintro e w1 ⟨rfl, hw1⟩
      subst hw1
      go_wp2
      go_ret
      exact ⟨rfl, (by repeat (first | with_reducible exact Below.refl _ _ | with_reducible assumption | refine below_drewN ?_ _ | refine Below.drew ?_ | refine Below.alloc ?_ (by first | (simp; done) | (simp; omega) | omega) _ | refine Below.setCell ?_ (by first | (simp; done) | (simp; omega) | omega) _ | refine Below.trans ?_ (Below.mono (by assumption) (by first | (simp; done) | (simp; omega) | omega))))⟩
    · go_enter Tryd.func62, Tryd.ntmps62
      go_wp2_with fail
      refine (HS.out _).mono ?_
      rintro e w1 ⟨rfl, hw1⟩
      subst hw1
      go_wp2
      go_ret
      exact ⟨rfl, (by repeat (first | with_reducible exact Below.refl _ _ | with_reducible assumption | refine below_drewN ?_ _ | refine Below.drew ?_ | refine Below.alloc ?_ (by first | (simp; done) | (simp; omega) | omega) _ | refine Below.setCell ?_ (by first | (simp; done) | (simp; omega) | omega) _ | refine Below.trans ?_ (Below.mono (by assumption) (by first | (simp; done) | (simp; omega) | omega))))⟩

set_option maxHeartbeats 1000000 in
theorem pCheck_long (s m : Int) (a : Option Addr) (q cap : Nat) (h0 : Pl.sd s = true) (h1 : ¬ m < 1) (h2 : ¬ 6 < m) (h3 : (16 : Int) < (q : Int)) (w : World) :
    Calls Tryd.prog 62 #[.agg #[.int .i64 s, .int .i64 m, .slice a q cap]] w fun e w' => e = .returned (.int .i64 2) ∧ Below w.heap.size w w' := by
  have HS := pSide_any s
  rw [h0] at HS
  replace HS := Lib.hid HS
  clear h0
  go_enter Tryd.func62, Tryd.ntmps62
  go_wp2_with fail
  refine (HS.out _).mono ?_
  rintro e w1 ⟨rfl, hw1⟩
  subst hw1
  go_wp2
  go_ret
  exact ⟨rfl, (by repeat (first | with_reducible exact Below.refl _ _ | with_reducible assumption | refine below_drewN ?_ _ | refine Below.drew ?_ | refine Below.alloc ?_ (by first | (simp; done) | (simp; omega) | omega) _ | refine Below.setCell ?_ (by first | (simp; done) | (simp; omega) | omega) _ | refine Below.trans ?_ (Below.mono (by assumption) (by first | (simp; done) | (simp; omega) | omega))))⟩

theorem pCheck_any (s m : Int) (a : Option Addr) (cap : Nat) (L : List Pl.Wk) (w : World) (hL : Hid (WksAt w a L)) :
    Calls Tryd.prog 62 #[shV s m a L.length cap] w fun e w' => e = .returned (.int .i64 (Pl.chk s m L)) ∧ Below w.heap.size w w' := by
  unfold shV Pl.chk
  by_cases h : Pl.sd s = false ∨ m < 1 ∨ 6 < m
  · rw [if_pos (by rcases h with h | h | h; have := of_decide_eq_false h; omega; omega; omega)]
    exact pCheck_bad s m a _ cap h w
  · have hs : Pl.sd s = true := by
      cases e : Pl.sd s
      · exact (h (.inl e)).elim
      · rfl
    have hs2 := of_decide_eq_true hs
    rw [if_neg (by omega)]
    by_cases h3 : 16 < L.length
    · rw [if_pos h3]
      exact pCheck_long s m a _ cap hs (by omega) (by omega) (by omega) w
    · rw [if_neg h3]
      exact pCheck_loop s m a cap L _ (Lib.hid rfl) hs (by omega) (by omega) (by omega) w hL

set_option maxHeartbeats 1000000 in
/-- checkPlate -/
theorem checkPlate_any (s m : Int) (a : Option Addr) (cap : Nat) (L : List Pl.Wk) (p : Int) (w : World) (hL : Hid (WksAt w a L)) :
    Calls Tryd.prog 48 #[shV s m a L.length cap, .int .i64 p] w fun e w' => e = .returned (.int .i64 (if Pl.chk s m L ≠ 0 then Pl.chk s m L else if Pl.ix p m then 0 else 1)) ∧ Below w.heap.size w w' := by
  have HC := Lib.hid fun (W : World) (hb : Below w.heap.size w W) => pCheck_any s m a cap L W (Lib.hid (hL.out.below hb))
  have HI := pIndex_any p m
  generalize Pl.chk s m L = er at *
  generalize Pl.ix p m = ib at *
  replace HI := Lib.hid HI
  unfold shV at *
  go_enter Tryd.func48, Tryd.ntmps48
  go_wp2_with fail
  refine (HC.out _ (by repeat (first | with_reducible exact Below.refl _ _ | with_reducible assumption | refine below_drewN ?_ _ | refine Below.drew ?_ | refine Below.alloc ?_ (by first | (simp; done) | (simp; omega) | omega) _ | refine Below.setCell ?_ (by first | (simp; done) | (simp; omega) | omega) _ | refine Below.trans ?_ (Below.mono (by assumption) (by first | (simp; done) | (simp; omega) | omega))))).mono ?_
  rintro e w1 ⟨rfl, hb1⟩
  have k1 : w1.cell? ⟨w.heap.size, 1, none⟩ = some (.int .i64 m) := kept1 (by simp [go_sem]) hb1
  have hbw : Below w.heap.size w w1 := (by repeat (first | with_reducible exact Below.refl _ _ | with_reducible assumption | refine below_drewN ?_ _ | refine Below.drew ?_ | refine Below.alloc ?_ (by first | (simp; done) | (simp; omega) | omega) _ | refine Below.setCell ?_ (by first | (simp; done) | (simp; omega) | omega) _ | refine Below.trans ?_ (Below.mono (by assumption) (by first | (simp; done) | (simp; omega) | omega))))
  clear hb1 HC
  by_cases h0 : er = 0
  · subst h0
    go_wp2_with fail
    refine (HI.out _).mono ?_
    rintro e w2 ⟨rfl, hw2⟩
    subst hw2
    cases ib
    · go_wp2
      go_ret
      exact ⟨rfl, hbw⟩
    · go_wp2
      go_ret
      exact ⟨rfl, hbw⟩
  · have n0 : (er != 0) = true := by simpa using h0
    go_wp2
    go_ret
    exact ⟨rfl, hbw⟩
end Go.Proofs.YtidcedilfhmllaaDoor
