/- Contracts of the specification of layer 3: Check. -/
import Derived.Test.YtidcedilfhmllaaDoorZ04
import Derived.Test.YtidcedilfhmllaaDoorZJu
set_option linter.unusedSimpArgs false
set_option linter.unusedVariables false
namespace Go.Proofs.YtidcedilfhmllaaDoor
open Go.RowKit

theorem in_ix (f m : Int) : decide ((0 : Int) ≤ f ∧ f ≤ m - 1) = Pl.ix f m := by
  unfold Pl.ix
  exact decide_eq_decide.2 (by omega)
theorem in_ix8 (f : Int) : decide ((0 : Int) ≤ f ∧ f ≤ 7) = Pl.ix f 8 := by
  unfold Pl.ix
  exact decide_eq_decide.2 (by omega)
theorem in_sd (f : Int) : decide ((1 : Int) ≤ f ∧ f ≤ 6) = Pl.sd f := rfl
theorem rInM_any (f m : Int) (W : World) : Calls Tryd.prog 11 #[.int .i64 f, .int .i64 0, .int .i64 (m - 1)] W fun e w' => e = .returned (.bool (Pl.ix f m)) ∧ w' = W := by
  have h := rIn_any f 0 (m - 1) W
  rw [in_ix] at h
  exact h
theorem rIn8_any (f : Int) (W : World) : Calls Tryd.prog 11 #[.int .i64 f, .int .i64 0, .int .i64 7] W fun e w' => e = .returned (.bool (Pl.ix f 8)) ∧ w' = W := by
  have h := rIn_any f 0 7 W
  rw [in_ix8] at h
  exact h
theorem rIn6_any (f : Int) (W : World) : Calls Tryd.prog 11 #[.int .i64 f, .int .i64 1, .int .i64 6] W fun e w' => e = .returned (.bool (Pl.sd f)) ∧ w' = W := rIn_any f 1 6 W

set_option maxRecDepth 100000 in
set_option maxHeartbeats 4000000 in
theorem rCheck_loop (s m : Int) (a : Option Addr) (cap : Nat) (L : List Pl.Wk) (q : Nat) (hq : Hid (L.length = q)) (h0 : Pl.sd s = true) (h1 : ¬ m < 1) (h2 : ¬ 6 < m) (h3 : ¬ (16 : Int) < (q : Int)) (w : World) (hL : Hid (WksAt w a L)) :
    Calls Tryd.prog 54 #[.agg #[.int .i64 s, .int .i64 m, .slice a q cap]] w fun e w' => e = .returned (.int .i64 (if L.all (Pl.okW m) then 0 else 1)) ∧ Below w.heap.size w w' := by
  obtain ⟨r, hr⟩ : ∃ r, L.all (Pl.okW m) = r := ⟨_, rfl⟩
  rw [hr]
  have hr0 : Hid (r = (L.drop 0).all (Pl.okW m)) := Lib.hid (by rw [List.drop_zero]; exact hr.symm)
  have hq3 : q ≤ 16 := by omega
  have HS := rIn6_any s
  have HP := rIn6_any m
  rw [h0] at HS
  rw [show Pl.sd m = true from decide_eq_true (by omega)] at HP
  replace HS := Lib.hid HS
  replace HP := Lib.hid HP
  clear hr h0
  go_enter Tryd.func54, Tryd.ntmps54
  go_wp2_with fail
  refine (HS.out _).mono ?_
  rintro e w8 ⟨rfl, hw8⟩
  subst hw8
  go_wp2_with fail
  refine (HP.out _).mono ?_
  rintro e w1 ⟨rfl, hw1⟩
  have k0 : w1.cell? ⟨w.heap.size, 0, none⟩ = some (.int .i64 s) := by rw [hw1]; simp [go_sem]
  have k1 : w1.cell? ⟨w.heap.size, 1, none⟩ = some (.int .i64 m) := by rw [hw1]; simp [go_sem]
  have k2 : w1.cell? ⟨w.heap.size, 2, none⟩ = some (.slice a q cap) := by rw [hw1]; simp [go_sem]
  have hbw : Below w.heap.size w w1 := by rw [hw1]; exact below_alloc (Below.refl _ _) _
  clear hw1 k0 HS HP
  go_wp2
  go_loopw [3] (fun i wr => ∃ k : Nat, k ≤ q ∧ i = .int .i64 k ∧ wr.cell? ⟨w.heap.size, 1, none⟩ = some (.int .i64 m) ∧ wr.cell? ⟨w.heap.size, 2, none⟩ = some (.slice a q cap) ∧ Below w.heap.size w wr ∧ w.heap.size < wr.heap.size ∧ Hid (r = (L.drop k).all (Pl.okW m))) (fun i _ => q - (RowKit.intOf i).toNat)
  case atStart => exact ⟨0, Nat.zero_le _, rfl, k1, k2, hbw, block_lt_of_cell k1, hr0⟩
  case round =>
    clear hr0 hbw k1 k2
    obtain ⟨k, hk, rfl, hn, hn2, hb, hsz, hbad⟩ := hrel
    by_cases hlt : k < q
    · obtain ⟨f, t, mo, hl⟩ : ∃ f t mo, L.getD k Pl.noW = ⟨f, t, mo⟩ := ⟨_, _, _, rfl⟩
      have hkL : k < L.length := by have := hq.out; omega
      obtain ⟨x, rfl, hl3⟩ := hL.out k hkL
      have ⟨hc0, hc1, hc2⟩ := hl3.below hb
      have hst := all_step (m := m) hkL
      rw [hl] at hc0 hc1 hc2 hst
      simp only at hc0 hc1 hc2
      clear hl3 hl
      have hi5 : (k : Int) < (q : Int) := by omega
      have H1 := rInM_any f m
      have H2 := rInM_any t m
      have H3 := rIn8_any mo
      rw [okW_ix] at hst
      have hsz2 : w.heap.size < wr.heap.size := hsz
      cases e1 : Pl.ix f m
      · rw [e1] at H1 hst
        have hb9 : r = false := by rw [hbad.out, hst]; rfl
        subst hb9
        clear hbad hst H2 H3
        replace H1 := Lib.hid H1
        go_wp2_with fail
        refine (H1.out _).mono ?_
        rintro e w2 ⟨rfl, hw2⟩
        subst hw2
        go_wp2
        go_ret
        exact ⟨rfl, (by repeat (first | with_reducible exact Below.refl _ _ | with_reducible assumption | refine below_drewN ?_ _ | refine Below.drew ?_ | refine Below.alloc ?_ (by first | (simp; done) | (simp; omega) | omega) _ | refine Below.setCell ?_ (by first | (simp; done) | (simp; omega) | omega) _ | refine Below.trans ?_ (Below.mono (by assumption) (by first | (simp; done) | (simp; omega) | omega))))⟩
      · rw [e1] at H1 hst
        cases e2 : Pl.ix t m
        · rw [e2] at H2 hst
          have hb9 : r = false := by rw [hbad.out, hst]; rfl
          subst hb9
          clear hbad hst H3
          replace H1 := Lib.hid H1
          replace H2 := Lib.hid H2
          go_wp2_with fail
          refine (H1.out _).mono ?_
          rintro e w2 ⟨rfl, hw2⟩
          subst hw2
          go_wp2_with fail
          refine (H2.out _).mono ?_
          rintro e w2 ⟨rfl, hw2⟩
          subst hw2
          go_wp2
          go_ret
          exact ⟨rfl, (by repeat (first | with_reducible exact Below.refl _ _ | with_reducible assumption | refine below_drewN ?_ _ | refine Below.drew ?_ | refine Below.alloc ?_ (by first | (simp; done) | (simp; omega) | omega) _ | refine Below.setCell ?_ (by first | (simp; done) | (simp; omega) | omega) _ | refine Below.trans ?_ (Below.mono (by assumption) (by first | (simp; done) | (simp; omega) | omega))))⟩
        · rw [e2] at H2 hst
          cases e3 : (f == t)
          · rw [e3] at hst
            cases e4 : Pl.ix mo 8
            · rw [e4] at H3 hst
              have hb9 : r = false := by rw [hbad.out, hst]; rfl
              subst hb9
              clear hbad hst
              replace H1 := Lib.hid H1
              replace H2 := Lib.hid H2
              replace H3 := Lib.hid H3
              go_wp2_with fail
              refine (H1.out _).mono ?_
              rintro e w2 ⟨rfl, hw2⟩
              subst hw2
              go_wp2_with fail
              refine (H2.out _).mono ?_
              rintro e w2 ⟨rfl, hw2⟩
              subst hw2
              go_wp2_with fail
              refine (H3.out _).mono ?_
              rintro e w2 ⟨rfl, hw2⟩
              subst hw2
              go_wp2
              go_ret
              exact ⟨rfl, (by repeat (first | with_reducible exact Below.refl _ _ | with_reducible assumption | refine below_drewN ?_ _ | refine Below.drew ?_ | refine Below.alloc ?_ (by first | (simp; done) | (simp; omega) | omega) _ | refine Below.setCell ?_ (by first | (simp; done) | (simp; omega) | omega) _ | refine Below.trans ?_ (Below.mono (by assumption) (by first | (simp; done) | (simp; omega) | omega))))⟩
            · rw [e4] at H3 hst
              have hb9 : Hid (r = (L.drop (k + 1)).all (Pl.okW m)) := Lib.hid (by rw [hbad.out, hst]; rfl)
              clear hbad hst
              replace H1 := Lib.hid H1
              replace H2 := Lib.hid H2
              replace H3 := Lib.hid H3
              have hnA := cell_alloc hn (Obj.cells #[.int .i64 f, .int .i64 t, .int .i64 mo] 61)
              have hnB := cell_alloc hn2 (Obj.cells #[.int .i64 f, .int .i64 t, .int .i64 mo] 61)
              have hbA := below_alloc hb (Obj.cells #[.int .i64 f, .int .i64 t, .int .i64 mo] 61)
              go_wp2_with fail
              refine (H1.out _).mono ?_
              rintro e w2 ⟨rfl, hw2⟩
              subst hw2
              go_wp2_with fail
              refine (H2.out _).mono ?_
              rintro e w2 ⟨rfl, hw2⟩
              subst hw2
              go_wp2_with fail
              refine (H3.out _).mono ?_
              rintro e w2 ⟨rfl, hw2⟩
              subst hw2
              go_wp2
              go_roundw
              case rel => exact ⟨k + 1, by omega, by go_num, hnA, hnB, hbA, block_lt_of_cell hnA, hb9⟩
              case measure => first | (simp [RowKit.intOf]; done) | (simp [RowKit.intOf]; omega) | omega
          · rw [e3] at hst
            have hb9 : r = false := by rw [hbad.out, hst]; rfl
            subst hb9
            have hft : f = t := by simpa using e3
            subst hft
            clear hbad hst e2 e3
            replace H1 := Lib.hid H1
            go_wp2_with fail
            refine (H1.out _).mono ?_
            rintro e w2 ⟨rfl, hw2⟩
            subst hw2
            go_wp2_with fail
            refine (H1.out _).mono ?_
            rintro e w2 ⟨rfl, hw2⟩
            subst hw2
            go_wp2
            go_ret
            exact ⟨rfl, (by repeat (first | with_reducible exact Below.refl _ _ | with_reducible assumption | refine below_drewN ?_ _ | refine Below.drew ?_ | refine Below.alloc ?_ (by first | (simp; done) | (simp; omega) | omega) _ | refine Below.setCell ?_ (by first | (simp; done) | (simp; omega) | omega) _ | refine Below.trans ?_ (Below.mono (by assumption) (by first | (simp; done) | (simp; omega) | omega))))⟩
    · obtain rfl : k = q := by omega
      have hi5 : ¬ (k : Int) < (k : Int) := by omega
      rw [List.drop_of_length_le (by have := hq.out; omega)] at hbad
      have hb9 : r = true := hbad.out
      subst hb9
      clear hbad
      go_wp2
      go_ret
      exact ⟨rfl, hb⟩

set_option maxHeartbeats 1000000 in
theorem rCheck_bad (s m : Int) (a : Option Addr) (q cap : Nat) (h : Pl.sd s = false ∨ m < 1 ∨ 6 < m) (w : World) :
    Calls Tryd.prog 54 #[.agg #[.int .i64 s, .int .i64 m, .slice a q cap]] w fun e w' => e = .returned (.int .i64 1) ∧ Below w.heap.size w w' := by
  have HS := rIn6_any s
  cases e1 : Pl.sd s
  · rw [e1] at HS
    replace HS := Lib.hid HS
    clear h
    go_enter Tryd.func54, Tryd.ntmps54
    go_wp2_with fail
    refine (HS.out _).mono ?_
    rintro e w1 ⟨rfl, hw1⟩
    subst hw1
    go_wp2
    go_ret
    exact ⟨rfl, (by repeat (first | with_reducible exact Below.refl _ _ | with_reducible assumption | refine below_drewN ?_ _ | refine Below.drew ?_ | refine Below.alloc ?_ (by first | (simp; done) | (simp; omega) | omega) _ | refine Below.setCell ?_ (by first | (simp; done) | (simp; omega) | omega) _ | refine Below.trans ?_ (Below.mono (by assumption) (by first | (simp; done) | (simp; omega) | omega))))⟩
  · rw [e1] at HS h
    replace HS := Lib.hid HS
    have HP := rIn6_any m
    rw [show Pl.sd m = false from decide_eq_false (by rcases h with h | h | h; cases h; omega; omega)] at HP
    replace HP := Lib.hid HP
    clear h
    go_enter Tryd.func54, Tryd.ntmps54
    go_wp2_with fail
    refine (HS.out _).mono ?_
    rintro e w1 ⟨rfl, hw1⟩
    subst hw1
    go_wp2_with fail
    refine (HP.out _).mono ?_
    rintro e w1 ⟨rfl, hw1⟩
    subst hw1
    go_wp2
    go_ret
    exact ⟨rfl, (by repeat (first | with_reducible exact Below.refl _ _ | with_reducible assumption | refine below_drewN ?_ _ | refine Below.drew ?_ | refine Below.alloc ?_ (by first | (simp; done) | (simp; omega) | omega) _ | refine Below.setCell ?_ (by first | (simp; done) | (simp; omega) | omega) _ | refine Below.trans ?_ (Below.mono (by assumption) (by first | (simp; done) | (simp; omega) | omega))))⟩

set_option maxHeartbeats 1000000 in
theorem rCheck_long (s m : Int) (a : Option Addr) (q cap : Nat) (h0 : Pl.sd s = true) (h1 : ¬ m < 1) (h2 : ¬ 6 < m) (h3 : (16 : Int) < (q : Int)) (w : World) :
    Calls Tryd.prog 54 #[.agg #[.int .i64 s, .int .i64 m, .slice a q cap]] w fun e w' => e = .returned (.int .i64 2) ∧ Below w.heap.size w w' := by
  have HS := rIn6_any s
  rw [h0] at HS
  have HP := rIn6_any m
  rw [show Pl.sd m = true from decide_eq_true (by omega)] at HP
  replace HS := Lib.hid HS
  replace HP := Lib.hid HP
  clear h0
  go_enter Tryd.func54, Tryd.ntmps54
  go_wp2_with fail
  refine (HS.out _).mono ?_
  rintro e w1 ⟨rfl, hw1⟩
  subst hw1
  go_wp2_with fail
  refine (HP.out _).mono ?_
  rintro e w1 ⟨rfl, hw1⟩
  subst hw1
  go_wp2
  go_ret
  exact ⟨rfl, (by repeat (first | with_reducible exact Below.refl _ _ | with_reducible assumption | refine below_drewN ?_ _ | refine Below.drew ?_ | refine Below.alloc ?_ (by first | (simp; done) | (simp; omega) | omega) _ | refine Below.setCell ?_ (by first | (simp; done) | (simp; omega) | omega) _ | refine Below.trans ?_ (Below.mono (by assumption) (by first | (simp; done) | (simp; omega) | omega))))⟩

theorem rCheck_any (s m : Int) (a : Option Addr) (cap : Nat) (L : List Pl.Wk) (w : World) (hL : Hid (WksAt w a L)) :
    Calls Tryd.prog 54 #[shV s m a L.length cap] w fun e w' => e = .returned (.int .i64 (Pl.chk s m L)) ∧ Below w.heap.size w w' := by
  unfold shV Pl.chk
  by_cases h : Pl.sd s = false ∨ m < 1 ∨ 6 < m
  · rw [if_pos (by rcases h with h | h | h; have := of_decide_eq_false h; omega; omega; omega)]
    exact rCheck_bad s m a _ cap h w
  · have hs : Pl.sd s = true := by
      cases e : Pl.sd s
      · exact (h (.inl e)).elim
      · rfl
    have hs2 := of_decide_eq_true hs
    rw [if_neg (by omega)]
    by_cases h3 : 16 < L.length
    · rw [if_pos h3]
      exact rCheck_long s m a _ cap hs (by omega) (by omega) (by omega) w
    · rw [if_neg h3]
      exact rCheck_loop s m a cap L _ (Lib.hid rfl) hs (by omega) (by omega) (by omega) w hL

end Go.Proofs.YtidcedilfhmllaaDoor
