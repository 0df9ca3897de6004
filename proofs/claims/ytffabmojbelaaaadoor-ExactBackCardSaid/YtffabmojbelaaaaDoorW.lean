/- The contract of Best of package exact. -/
import Derived.Test.YtffabmojbelaaaaDoorWa
namespace Go.Proofs.YtffabmojbelaaaaDoor
open Go.RowKit Go.Shelf
attribute [local go_sem] Oper.semAt_some

set_option maxRecDepth 100000 in
set_option maxHeartbeats 6000000 in
theorem best_ok (N D m : Int) (hv : Rt.vldP N D) (m1 : 1 ≤ m) (m2 : m ≤ 100000) (w : World) :
    Calls Tryd.prog 52 #[.agg #[.int .i64 N, .int .i64 D], .int .i64 m] w fun e w' => ∃ x y, Rt.BestOf N D m x y ∧ Rt.vldP x y ∧ e = .returned (numV ⟨x, y, 0⟩) ∧ Below w.heap.size w w' := by
  replace hv := Lib.hid hv
  refine (callsIn_wide (n := 5)).1 ?_
  refine callsIn_of_wp_marks Tryd.func52 rfl trivial ?_ rfl
  simp only [Tryd.ntmps52, List.size_toArray, List.length_cons, List.length_nil, Nat.reduceAdd, Nat.reduceSub, Array.replicate_succ, Array.replicate_zero, List.push_toArray, List.append_toArray, List.nil_append, List.cons_append]
  gi_wp2_with (first
    | (refine ⟨trivial, ?_⟩
       gi_at_call 21
       refine (callsIn_wide.2 (valid_yes N D _ hv.out)).mono ?_
       rintro e w1 ⟨rfl, hb1⟩
       have hz_hb1 := hb1.size
       try simp at hz_hb1
       have hb1_0_k0 : w1.cell? ⟨w.heap.size, 0, none⟩ = some (.int .i64 N) := (hb1.cell (p := ⟨w.heap.size, 0, none⟩) (by first | (simp; done) | (simp; omega) | omega)).trans (by first | assumption | (simp [go_sem]; done) | simp [go_sem, *])
       have hb1_0_k1 : w1.cell? ⟨w.heap.size, 1, none⟩ = some (.int .i64 D) := (hb1.cell (p := ⟨w.heap.size, 1, none⟩) (by first | (simp; done) | (simp; omega) | omega)).trans (by first | assumption | (simp [go_sem]; done) | simp [go_sem, *])
       have hb1_0_f : ∀ o, w1.frozen? ⟨w.heap.size, o, none⟩ = false := fun o => (hb1.frozen (p := ⟨w.heap.size, o, none⟩) (by first | (simp; done) | (simp; omega) | omega)).trans (by first | assumption | (simp [go_sem]; done) | simp [go_sem, *])
       have hb1_0_lt : w.heap.size < w1.heap.size := Nat.lt_of_lt_of_le (m := _) (by first | (simp; done) | (simp; omega) | omega) hb1.size
       have hb1_1_k0 : w1.cell? ⟨w.heap.size + 1, 0, none⟩ = some (.int .i64 m) := (hb1.cell (p := ⟨w.heap.size + 1, 0, none⟩) (by first | (simp; done) | (simp; omega) | omega)).trans (by first | assumption | (simp [go_sem]; done) | simp [go_sem, *])
       have hb1_1_f : ∀ o, w1.frozen? ⟨w.heap.size + 1, o, none⟩ = false := fun o => (hb1.frozen (p := ⟨w.heap.size + 1, o, none⟩) (by first | (simp; done) | (simp; omega) | omega)).trans (by first | assumption | (simp [go_sem]; done) | simp [go_sem, *])
       have hb1_1_lt : w.heap.size + 1 < w1.heap.size := Nat.lt_of_lt_of_le (m := _) (by first | (simp; done) | (simp; omega) | omega) hb1.size
       have hb1_2_k0 : w1.cell? ⟨w.heap.size + 1 + 1, 0, none⟩ = some (.int .i64 0) := (hb1.cell (p := ⟨w.heap.size + 1 + 1, 0, none⟩) (by first | (simp; done) | (simp; omega) | omega)).trans (by first | assumption | (simp [go_sem]; done) | simp [go_sem, *])
       have hb1_2_k1 : w1.cell? ⟨w.heap.size + 1 + 1, 1, none⟩ = some (.int .i64 0) := (hb1.cell (p := ⟨w.heap.size + 1 + 1, 1, none⟩) (by first | (simp; done) | (simp; omega) | omega)).trans (by first | assumption | (simp [go_sem]; done) | simp [go_sem, *])
       have hb1_2_f : ∀ o, w1.frozen? ⟨w.heap.size + 1 + 1, o, none⟩ = false := fun o => (hb1.frozen (p := ⟨w.heap.size + 1 + 1, o, none⟩) (by first | (simp; done) | (simp; omega) | omega)).trans (by first | assumption | (simp [go_sem]; done) | simp [go_sem, *])
       have hb1_2_lt : w.heap.size + 1 + 1 < w1.heap.size := Nat.lt_of_lt_of_le (m := _) (by first | (simp; done) | (simp; omega) | omega) hb1.size
       have hb1_3_k0 : w1.cell? ⟨w.heap.size + 1 + 1 + 1, 0, none⟩ = some (.int .i64 0) := (hb1.cell (p := ⟨w.heap.size + 1 + 1 + 1, 0, none⟩) (by first | (simp; done) | (simp; omega) | omega)).trans (by first | assumption | (simp [go_sem]; done) | simp [go_sem, *])
       have hb1_3_f : ∀ o, w1.frozen? ⟨w.heap.size + 1 + 1 + 1, o, none⟩ = false := fun o => (hb1.frozen (p := ⟨w.heap.size + 1 + 1 + 1, o, none⟩) (by first | (simp; done) | (simp; omega) | omega)).trans (by first | assumption | (simp [go_sem]; done) | simp [go_sem, *])
       have hb1_3_lt : w.heap.size + 1 + 1 + 1 < w1.heap.size := Nat.lt_of_lt_of_le (m := _) (by first | (simp; done) | (simp; omega) | omega) hb1.size
       skip)
    | (refine ⟨trivial, ?_⟩
       gi_at_call 94
       refine (callsIn_wide.2 (terms_any N D _)).mono ?_
       rintro e w2 ⟨rfl, hw2⟩
       subst hw2))
  have lt1 : w.heap.size < w1.heap.size := by omega
  have hbw : Below w.heap.size w w1 := (by repeat (first | with_reducible exact Below.refl _ _ | with_reducible assumption | refine below_drewN ?_ _ | refine Below.drew ?_ | refine Below.alloc ?_ (by first | (simp; done) | (simp; omega) | omega) _ | refine Below.setCell ?_ (by first | (simp; done) | (simp; omega) | omega) _ | refine Below.trans ?_ (Below.mono (by assumption) (by first | (simp; done) | (simp; omega) | omega))))
  refine range_next (n := 5) (by omega) (gf := 114) (lb := #[.pointer (some ⟨w1.heap.size + 1, 0, none⟩)]) rfl (enters_of Tryd.func114 (by kernel_rfl) rfl)
    (terms_hands 4 (by omega) (w1.heap.size + 1) N D hv.out _ (by simp) (by simp [go_sem]) (by simp [go_sem])) (Below.refl _ _)
    (BestI N D m w1.heap.size w.heap.size w) (BestX N D m w.heap.size w) (bestI_own _ _ _ _ _ _ _ (by first | (simp; done) | (simp; omega) | omega)) (bestX_own _ _ _ _ _ _ (by first | (simp; done) | (simp; omega) | omega)) ?init
    (fun x => { tmps := #[.agg #[.int .i64 N, .int .i64 D], .int .i64 m,
          .pointer (some ⟨w.heap.size, 0, none⟩), .pointer (some ⟨w.heap.size + 1, 0, none⟩), .pointer (some ⟨w.heap.size + 1 + 1, 0, none⟩), .pointer (some ⟨w.heap.size + 1 + 1 + 1, 0, none⟩),
          .pointer (some ⟨w1.heap.size, 0, none⟩), .int .i64 x, undef, undef,
          .agg #[.int .i64 N, .int .i64 D], .bool true, .bool false,
          .bool false, .int .i64 m, .bool (decide (m < 1)), .bool (decide (m < 1)),
          .bool (decide (m < 1)), .int .i64 m, .bool (decide (100000 < m)),
          .bool (decide (m < 1) || decide (100000 < m)), undef,
          .agg #[.int .i64 0, .int .i64 1],
          .agg #[.int .i64 1, .int .i64 0],
          .agg #[.int .i64 0, .int .i64 1, .int .i64 1, .int .i64 0],
          .agg #[.int .i64 N, .int .i64 D],
          .func (.func 114) #[] #[.pointer (some ⟨w1.heap.size + 1, 0, none⟩)], .int .i64 x, undef,
          undef, undef, undef, undef, undef, undef, undef, undef, undef, undef, undef, undef, undef, undef, undef,
          undef, undef, undef, undef, undef, undef, undef, undef, undef, undef, undef, undef, undef], defers := [] }) ?assign ?body ?done ?stop
  case init =>
    have hv0 : Below w1.heap.size w1 ((w1.alloc (Obj.cells #[.int .i64 0, .int .i64 1, .int .i64 1, .int .i64 0] 104)).alloc (Obj.cells #[.int .i64 N, .int .i64 D] 23)) := (by repeat (first | with_reducible exact Below.refl _ _ | with_reducible assumption | refine below_drewN ?_ _ | refine Below.drew ?_ | refine Below.alloc ?_ (by first | (simp; done) | (simp; omega) | omega) _ | refine Below.setCell ?_ (by first | (simp; done) | (simp; omega) | omega) _ | refine Below.trans ?_ (Below.mono (by assumption) (by first | (simp; done) | (simp; omega) | omega))))
    have hd := hv.out.1
    refine ⟨⟨0, 1, 1, 0, N, D, Rt.St.start N D hd, m1, by omega, ?_⟩, (by repeat (first | with_reducible exact Below.refl _ _ | with_reducible assumption | refine below_drewN ?_ _ | refine Below.drew ?_ | refine Below.alloc ?_ (by first | (simp; done) | (simp; omega) | omega) _ | refine Below.setCell ?_ (by first | (simp; done) | (simp; omega) | omega) _ | refine Below.trans ?_ (Below.mono (by assumption) (by first | (simp; done) | (simp; omega) | omega))))⟩
    exact ⟨by simp [go_sem], by simp [go_sem], by simp [go_sem], by simp [go_sem], fun o => by simp [go_sem],
      (hv0.cell (p := ⟨w.heap.size, 0, none⟩) hb1_0_lt).trans hb1_0_k0, (hv0.cell (p := ⟨w.heap.size, 1, none⟩) hb1_0_lt).trans hb1_0_k1, (hv0.cell (p := ⟨w.heap.size + 1, 0, none⟩) hb1_1_lt).trans hb1_1_k0,
      (hv0.cell (p := ⟨w.heap.size + 1 + 1, 0, none⟩) hb1_2_lt).trans hb1_2_k0, (hv0.cell (p := ⟨w.heap.size + 1 + 1, 1, none⟩) hb1_2_lt).trans hb1_2_k1, fun o => (hv0.frozen (p := ⟨w.heap.size + 1 + 1, o, none⟩) hb1_2_lt).trans (hb1_2_f o),
      (hv0.cell (p := ⟨w.heap.size + 1 + 1 + 1, 0, none⟩) hb1_3_lt).trans hb1_3_k0, fun o => (hv0.frozen (p := ⟨w.heap.size + 1 + 1 + 1, o, none⟩) hb1_3_lt).trans (hb1_3_f o)⟩
  case assign =>
    intro l x W K hK
    gi_wp2
    exact hK
  case body =>
    rintro l pre x W ⟨⟨h0, k0, h1, k1, num, den, hs, u0, u1, hc⟩, hb⟩ hpre
    obtain ⟨hd, hx⟩ := hs.comes hpre
    have ⟨v1, v2, v3, v4, _⟩ := hv.out
    have nx := hs.next hd
    have nb := nx.bd (by simp) v1 ⟨v3, v4⟩
    have nl := nx.later (by simp)
    have ob := hs.bd0 hd v1 ⟨v3, v4⟩
    rw [← hx] at nx nb nl
    have i1 : -4611686018427387904 ≤ x * h1 ∧ x * h1 ≤ 4611686018427387904 := by omega
    have i2 : -4611686018427387904 ≤ x * k1 ∧ x * k1 ≤ 4611686018427387904 := by omega
    have i3 : -4294967296 ≤ h0 ∧ h0 ≤ 4294967296 := by omega
    have i4 : -4294967296 ≤ k0 ∧ k0 ≤ 4294967296 := by omega
    have g0 := hc.c0
    have g1 := hc.c1
    have g2 := hc.c2
    have g3 := hc.c3
    replace hs := Lib.hid hs
    replace nx := Lib.hid nx
    replace hc := Lib.hid hc
    replace hpre := Lib.hid hpre
    replace hx := Lib.hid hx
    have hkx := Lib.hid nl
    clear nl
    by_cases hgt : m < k0 + x * k1
    · have hp : pre ≠ [] := by
        intro h
        obtain ⟨_, b2, _, b4, _, _⟩ := hs.out.first h
        rw [b2, b4] at hgt; omega
      have hk1 := (hs.out.later hp).1
      replace hp := Lib.hid hp
      have f1 := Rt.fl_spec (n := m - k0) (d := k1) (by omega)
      have f0 : 0 ≤ (m - k0) / k1 := Int.ediv_nonneg (by omega) (by omega)
      have f2 : (m - k0) / k1 ≤ m - k0 := Int.ediv_le_self _ (by omega)
      have hlv := Lib.hid (hs.out.leave hv.out hp.out (hs.out.comes hpre.out).1 u1 m2 (by rw [← hx.out]; exact hgt) u0)
      clear f1
      gi_wp2_with (first
        | (refine ⟨trivial, ?_⟩
           gi_at_call 98
           refine (CallsIn.inRound l (callsIn_wide.2 (conv_any h0 k0 h1 k1 x i1 i2 i3 i4 _))).mono ?_
           rintro e w2 ⟨rfl, hb2⟩
           have hc2 := hc.out.below hb2
           have g0 := hc2.c0
           have g1 := hc2.c1
           have g2 := hc2.c2
           have g3 := hc2.c3
           have gm := hc2.m0
           have z1 := cell_lt hc2.m0
           have z2 := cell_lt hc2.c0
           have ga0 := hc2.a0
           have ga1 := hc2.a1
           have z3 := cell_lt hc2.a0
           replace hc2 := Lib.hid hc2))
      have hcl : ∃ p q, Rt.BestOf N D m p q ∧ Rt.vldP p q ∧ ∀ w : World, Calls Tryd.prog 99 #[.agg #[.int .i64 N, .int .i64 D], .agg #[.int .i64 h1, .int .i64 k1], .agg #[.int .i64 (h0 + (m - k0) / k1 * h1), .int .i64 (k0 + (m - k0) / k1 * k1)]] w fun e w' => e = .returned (.agg #[.int .i64 p, .int .i64 q]) ∧ Below w.heap.size w w' := by
        obtain ⟨L1, L2, L3, L4, L5⟩ := hlv.out
        rcases L5 with ⟨a, b, c, d, e⟩ | ⟨a, b, c, d, e⟩
        · obtain ⟨p, q, f1, f2, _, f4⟩ := closer_any N D m _ _ h1 k1 hv.out L2 L1 a L3 u1 (by omega) m2 b c d e
          exact ⟨p, q, f1, f2, f4⟩
        · obtain ⟨p, q, f1, f2, f3, _⟩ := closer_any N D m h1 k1 _ _ hv.out L1 L2 a u1 L3 (by omega) m2 b c d e
          exact ⟨p, q, f1, f2, f3⟩
      obtain ⟨p, q, hbest, hvp, hcl⟩ := hcl
      replace hbest := Lib.hid hbest
      replace hvp := Lib.hid hvp
      replace hcl := Lib.hid hcl
      have hcv := Lib.hid fun W : World => conv_any h0 k0 h1 k1 ((m - k0) / k1) (by have := hlv.out.v1; have := hlv.out.v2; unfold Rt.vldP at *; omega) (by have := hlv.out.v1; have := hlv.out.v2; unfold Rt.vldP at *; omega) i3 i4 W
      rename_i Qz hz9 Kz hKz hgcd y0 y1 y2 y3 Qy Kb hKb Ka hKa
      clear hKz hz9 hgcd y0 y1 y2 y3
      replace hKa := Lib.hid hKa
      replace hKb := Lib.hid hKb
      replace hb1 := Lib.hid hb1
      replace hb2 := Lib.hid hb2
      replace hb := Lib.hid hb
      clear hb1_0_k0 hb1_0_k1 hb1_0_f hb1_1_k0 hb1_1_f hb1_2_k0 hb1_2_k1 hb1_2_f hb1_3_k0 hb1_3_f
      clear hlv hs nx hpre hx hkx hp i1 i2 i3 i4 nb ob u0 u1 hk1 f0 f2 hgt v1 v2 v3 v4 m1 m2 hc hd
      generalize (m - k0) / k1 = st at *
      generalize hQ : Exit.then Ka _ = Q9
      replace hQ := Lib.hid hQ
      generalize hs9 : h0 + st * h1 = hs at *
      generalize ks9 : k0 + st * k1 = ks at *
      clear hs9 ks9
      generalize h0 + x * h1 = hx at *
      generalize k0 + x * k1 = kx at *
      have hbx : Below w2.heap.size w2 (w2.alloc (Obj.cells #[.int .i64 hx, .int .i64 kx] 23)) := (by repeat (first | with_reducible exact Below.refl _ _ | with_reducible assumption | refine below_drewN ?_ _ | refine Below.drew ?_ | refine Below.alloc ?_ (by first | (simp; done) | (simp; omega) | omega) _ | refine Below.setCell ?_ (by first | (simp; done) | (simp; omega) | omega) _ | refine Below.trans ?_ (Below.mono (by assumption) (by first | (simp; done) | (simp; omega) | omega))))
      have hc3 := Lib.hid (hc2.out.below hbx)
      have kr := Lib.hid ((keeps_below hb2.out).trans (keeps_below hbx))
      have br : Hid (Below w.heap.size w (w2.alloc (Obj.cells #[.int .i64 hx, .int .i64 kx] 23))) := Lib.hid ((hb.out.trans (hb2.out.mono hb.out.size)).trans (hbx.mono (Nat.le_trans hb.out.size hb2.out.size)))
      have hbs := hb.out.size
      clear hbx hc2 hb2 hb hb1 g0 g1 g2 g3 gm z1 z2 ga0 ga1 z3 hb1_0_lt hb1_1_lt hb1_2_lt lt1 hbw
      generalize w2.alloc (Obj.cells #[.int .i64 hx, .int .i64 kx] 23) = W3 at *
      obtain ⟨g0, g1, g2, g3, ga0, ga1, _, _, _, _, _⟩ := best_facts hc3.out
      clear hz_hb1 hbs hv
      gi_region_with (first
        | (refine ⟨trivial, ?_⟩
           gi_at_call 98
           refine (CallsIn.inRound l (callsIn_wide.2 (hcv.out _))).mono ?_
           rintro e w4 ⟨rfl, hb4⟩
           have hb4' : Hid (Below W3.heap.size W3 w4) := Lib.hid ((by repeat (first | with_reducible exact Below.refl _ _ | with_reducible assumption | refine below_drewN ?_ _ | refine Below.drew ?_ | refine Below.alloc ?_ (by first | (simp; done) | (simp; omega) | omega) _ | refine Below.setCell ?_ (by first | (simp; done) | (simp; omega) | omega) _ | refine Below.trans ?_ (Below.mono (by assumption) (by first | (simp; done) | (simp; omega) | omega)))))
           have hc4 := Lib.hid (hc3.out.below hb4'.out)
           obtain ⟨_, _, g42, g43, g4a0, g4a1, _, _, _, _, _⟩ := best_facts hc4.out
           clear hb4
           skip)
        | (refine ⟨trivial, ?_⟩
           gi_at_call 99
           refine (CallsIn.inRound l (callsIn_wide.2 (hcl.out _))).mono ?_
           rintro e w5 ⟨rfl, hb5⟩
           have hb5' : Hid (Below w4.heap.size w4 w5) := Lib.hid ((by repeat (first | with_reducible exact Below.refl _ _ | with_reducible assumption | refine below_drewN ?_ _ | refine Below.drew ?_ | refine Below.alloc ?_ (by first | (simp; done) | (simp; omega) | omega) _ | refine Below.setCell ?_ (by first | (simp; done) | (simp; omega) | omega) _ | refine Below.trans ?_ (Below.mono (by assumption) (by first | (simp; done) | (simp; omega) | omega)))))
           have hc5 := Lib.hid (hc4.out.below hb5'.out)
           obtain ⟨_, _, _, _, _, _, r50, r51, e50, r5f, e5f⟩ := best_facts hc5.out
           clear hb5 g0 g1 g2 g3 ga0 ga1 g42 g43 g4a0 g4a1
           skip))
      all_goals
        rw [← hQ.out]
        apply hKa.out
        have h45 := hb4'.out.trans (hb5'.out.mono hb4'.out.size)
        have hb5w := br.out.trans (h45.mono br.out.size)
        have k5 := kr.out.trans (keeps_below h45)
        have hE := hc5
        clear hc3 hc4 hc5 hKa hKb hQ hcl hcv
        have E := best_end hE.out hb5w k5 p q
        clear hb5w k5 h45 kr br
        generalize ((w5.setCell ⟨w.heap.size + 1 + 1, 0, none⟩ (.int .i64 p)).setCell ⟨w.heap.size + 1 + 1, 1, none⟩ (.int .i64 q)).setCell ⟨w.heap.size + 1 + 1 + 1, 0, none⟩ (.int .i64 0) = w6 at E ⊢
        obtain ⟨a1, a2, a3, b6, k6⟩ := E
        gi_wp2
        exact ⟨k6.from _, ⟨p, q, hbest.out, hvp.out, a1, a2, a3⟩, b6⟩
    · gi_wp2_with (first
        | (refine ⟨trivial, ?_⟩
           gi_at_call 98
           refine (CallsIn.inRound l (callsIn_wide.2 (conv_any h0 k0 h1 k1 x i1 i2 i3 i4 _))).mono ?_
           rintro e w2 ⟨rfl, hb2⟩
           have hc2 := hc.out.below hb2
           have g0 := hc2.c0
           have g1 := hc2.c1
           have g2 := hc2.c2
           have g3 := hc2.c3
           have gf := hc2.cf
           have gm := hc2.m0
           have z1 := cell_lt hc2.m0
           have z2 := cell_lt hc2.c0
           replace hc2 := Lib.hid hc2))
      have hq : w.heap.size + 1 + 1 + 1 < w1.heap.size := hb1_3_lt
      have tc := hc2.out.turn hq h1 k1 (h0 + x * h1) (k0 + x * k1)
      generalize hw3 : (((w2.setCell ⟨w1.heap.size, 0, none⟩ (.int .i64 h1)).setCell ⟨w1.heap.size, 1, none⟩ (.int .i64 k1)).setCell ⟨w1.heap.size, 2, none⟩ (.int .i64 (h0 + x * h1))).setCell ⟨w1.heap.size, 3, none⟩ (.int .i64 (k0 + x * k1)) = w3 at tc ⊢
      have ko : KeepsOthers w2 w3 := by rw [← hw3]; exact (((KeepsOthers.setCell _ _ _).trans (KeepsOthers.setCell _ _ _)).trans (KeepsOthers.setCell _ _ _)).trans (KeepsOthers.setCell _ _ _)
      have hbz := hb.size
      have hbw2 : Below w.heap.size w w2 := hb.trans (hb2.mono hb.size)
      have hb3 : Below w.heap.size w w3 := by rw [← hw3]; exact (((hbw2.setCell (show w.heap.size ≤ w1.heap.size by omega) _).setCell (show w.heap.size ≤ w1.heap.size by omega) _).setCell (show w.heap.size ≤ w1.heap.size by omega) _).setCell (show w.heap.size ≤ w1.heap.size by omega) _
      clear hw3
      have ka : KeepsOthers W (w3.alloc (Obj.cells #[.int .i64 (h0 + x * h1), .int .i64 (k0 + x * k1)] 23)) := ((keeps_below hb2).trans ko).trans (KeepsOthers.alloc _ _)
      exact ⟨ka.from _, ka.walks, ⟨h1, k1, h0 + x * h1, k0 + x * k1, den, num % den, nx.out, u1, by omega, tc.below ((Below.refl _ _).alloc (Nat.le_refl _) _)⟩, hb3.alloc hb3.size _⟩
  case done =>
    rintro E W hE hI hK
    obtain ⟨⟨h0, k0, h1, k1, num, den, hs, u0, u1, hc⟩, hb⟩ := hI
    have hne : Rt.cf N D ≠ [] := by rw [Rt.cf_pos (show 0 < D by have := hv.out.1; omega)]; simp
    have hden : den = 0 := by
      have h5 := hs.rest
      rcases Int.lt_or_le 0 den with h6 | h6
      · rw [Rt.cf_pos h6] at h5; simp at h5
      · have := hs.d0; omega
    subst hden
    obtain ⟨e1, e2⟩ := hs.last hne hv.out.1 hv.out.2.2.2.2
    subst e1 e2
    have hbest := Lib.hid (Rt.best_self hv.out.1 u1 hv.out.2.2.2.2)
    have q2 := hc.c2
    have q3 := hc.c3
    have q4 := hc.r0
    have q5 := hc.r1
    have q6 := hc.rf
    have q7 := hc.e0
    have q8 := hc.ef
    clear hs hne hc
    gi_wp2
    generalize hW3 : ((W.setCell ⟨w.heap.size + 1 + 1, 0, none⟩ (.int .i64 h1)).setCell ⟨w.heap.size + 1 + 1, 1, none⟩ (.int .i64 k1)).setCell ⟨w.heap.size + 1 + 1 + 1, 0, none⟩ (.int .i64 0) = W3
    have r1 : W3.cell? ⟨w.heap.size + 1 + 1, 0, none⟩ = some (.int .i64 h1) := by rw [← hW3]; simp [go_sem, q4]
    have r2 : W3.cell? ⟨w.heap.size + 1 + 1, 1, none⟩ = some (.int .i64 k1) := by rw [← hW3]; simp [go_sem, q5]
    have r3 : W3.cell? ⟨w.heap.size + 1 + 1 + 1, 0, none⟩ = some (.int .i64 0) := by rw [← hW3]; simp [go_sem, q7]
    have hK3 : W3.heap[E]? = some (.deferred (some [])) := by rw [← hW3]; exact (((KeepsOthers.setCell W _ _).trans (KeepsOthers.setCell _ _ _)).trans (KeepsOthers.setCell _ _ _)).same E _ hK rfl
    have hb3 : Below w.heap.size w W3 := by rw [← hW3]; exact (by repeat (first | with_reducible exact Below.refl _ _ | with_reducible assumption | refine below_drewN ?_ _ | refine Below.drew ?_ | refine Below.alloc ?_ (by first | (simp; done) | (simp; omega) | omega) _ | refine Below.setCell ?_ (by first | (simp; done) | (simp; omega) | omega) _ | refine Below.trans ?_ (Below.mono (by assumption) (by first | (simp; done) | (simp; omega) | omega))))
    clear hW3
    have kp := fun {p : Addr} {v : Value} (h : W3.cell? p = some v) => cell_kept h (grownBy_putObj' W3 E (.deferred none)) (fun r e => by cases e; exact ⟨_, hK3, rfl⟩)
    have p1 := kp r1
    have p2 := kp r2
    have p3 := kp r3
    refine ⟨by simp, .inl ⟨_, _, rfl, run_takeDeferred hK3, ?_⟩⟩
    refine ⟨numV ⟨h1, k1, 0⟩, by simp [results, Tryd.results52, go_sem, p1, p2, p3, numV], h1, k1, hbest.out, hv.out, rfl, ?_⟩
    exact hb3.trans (belowK_b (w := w) (Nat.le_refl _) W3 E _ _ (by simp at hE; omega) hK3 rfl rfl)
  case stop =>
    rintro E pre W hE hpre hX hK
    obtain ⟨⟨x, y, g1, g2, g3, g4, g5⟩, hb⟩ := hX
    replace g1 := Lib.hid g1
    replace g2 := Lib.hid g2
    have kp := fun {p : Addr} {v : Value} (h : W.cell? p = some v) => cell_kept h (grownBy_putObj' W E (.deferred none)) (fun r e => by cases e; exact ⟨_, hK, rfl⟩)
    have p1 := kp g3
    have p2 := kp g4
    have p3 := kp g5
    gi_wp2
    refine ⟨by simp, .inl ⟨_, _, rfl, run_takeDeferred hK, ?_⟩⟩
    refine ⟨numV ⟨x, y, 0⟩, by simp [results, Tryd.results52, go_sem, p1, p2, p3, numV], x, y, g1.out, g2.out, rfl, ?_⟩
    exact hb.trans (belowK_b (w := w) (Nat.le_refl _) W E _ _ (by simp at hE; omega) hK rfl rfl)
end Go.Proofs.YtffabmojbelaaaaDoor
