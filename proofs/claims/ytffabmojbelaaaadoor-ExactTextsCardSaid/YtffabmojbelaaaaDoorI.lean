/- Contracts of Simplest, of package exact and of its specification. -/
import Derived.Test.YtffabmojbelaaaaDoorH
namespace Go.Proofs.YtffabmojbelaaaaDoor
open Go.RowKit

/-- the arguments of the recursion -/
structure Sim (a b c d : Int) : Prop where
  a0 : 1 ≤ a
  b0 : 1 ≤ b
  c0 : 1 ≤ c
  d0 : 1 ≤ d
  a1 : a ≤ 2147483647
  b1 : b ≤ 2147483647
  c1 : c ≤ 2147483647
  d1 : d ≤ 2147483647
  le : a * d ≤ c * b

/-- what the walk needs at one step -/
theorem sim_facts {a b c d : Int} (h : Sim a b c d) (hn : ¬ Rt.cl a b * d ≤ c) :
    Sim d (c - a / b * d) b (a - a / b * b) ∧ Rt.cl a b = a / b + 1 ∧ 0 ≤ a / b ∧ a / b ≤ 2147483647 ∧ 0 ≤ a / b * d ∧ a / b * d ≤ 2147483647 ∧ 0 ≤ a / b * b ∧ a / b * b ≤ 2147483647 ∧ ¬ Rt.cl a b ≤ c / d ∧
      ((c - a / b * d) + (a - a / b * b)).toNat < (b + d).toNat := by
  have ⟨x1, x2, x3, x4, x5, x6, x7, x8, x9⟩ := h
  obtain ⟨g1, g2, g3, g4, g5, g6⟩ := Rt.spl_next (show 0 < b by omega) (show 0 < d by omega) (show 0 < a by omega) x9 hn
  have gd := Rt.spl_dec (show 0 < b by omega) (show 0 < d by omega) hn
  have e1 : 0 ≤ a / b * d := Int.mul_nonneg g6 (by omega)
  have e2 : 0 ≤ a / b * b := Int.mul_nonneg g6 (by omega)
  have e3 : a / b ≤ a := Int.ediv_le_self _ (by omega)
  refine ⟨⟨x4, by omega, x2, by omega, x8, by omega, x6, by omega, g3⟩, g4, g6, by omega, e1, by omega, e2, by omega, ?_, by omega⟩
  rw [Rt.le_fl (by omega)]; exact hn

theorem spl_bd {a b c d : Int} (h : Sim a b c d) : 1 ≤ (Rt.spl a b c d).1 ∧ (Rt.spl a b c d).1 ≤ a ∧ 1 ≤ (Rt.spl a b c d).2 ∧ (Rt.spl a b c d).2 ≤ b := by
  have ⟨x1, x2, x3, x4, x5, x6, x7, x8, x9⟩ := h
  obtain ⟨r1, r2, r3, r4, r5, r6⟩ := Rt.spl_spec _ a b c d (Nat.le_refl _) (by omega) (by omega) (by omega) x9
  have := r6 a b x2 (by omega) x9
  omega

set_option maxHeartbeats 400000 in
theorem sab_one (a b c d : Int) (w : World) (h : Sim a b c d) (hn : Rt.cl a b * d ≤ c) :
    Calls Tryd.prog 96 #[.agg #[.int .i64 a, .int .i64 b], .agg #[.int .i64 c, .int .i64 d]] w fun e w' => e = .returned (.agg #[.int .i64 (Rt.cl a b), .int .i64 1]) ∧ Below w.heap.size w w' := by
  have ⟨x1, x2, x3, x4, x5, x6, x7, x8, _⟩ := h
  have hle : Rt.cl a b ≤ c / d := (Rt.le_fl (by omega)).2 hn
  clear hn h
  go_enter Tryd.func96, Tryd.ntmps96
  go_wp2_with (first | (go_at_call 90; refine (cei_any a b (by omega) (by omega) (by omega) _).mono ?_; rintro e w2 ⟨rfl, hw2⟩; subst hw2) | (go_at_call 89; refine (flo_any c d (by omega) (by omega) (by omega) _).mono ?_; rintro e w2 ⟨rfl, hw2⟩; subst hw2))
  refine bodyPost_ret (v := .agg #[.int .i64 (Rt.cl a b), .int .i64 1]) (by simp [results, Tryd.results96, go_sem]) rfl ?_
  exact ⟨rfl, (by repeat (first | with_reducible exact Below.refl _ _ | with_reducible assumption | refine below_drewN ?_ _ | refine Below.drew ?_ | refine Below.alloc ?_ (by first | (simp; done) | (simp; omega) | omega) _ | refine Below.setCell ?_ (by first | (simp; done) | (simp; omega) | omega) _ | refine Below.trans ?_ (Below.mono (by assumption) (by first | (simp; done) | (simp; omega) | omega))))⟩

set_option maxHeartbeats 1000000 in
theorem sab_step (a b c d p q f : Int) (w : World) (h : Sim a b c d) (_hf : Hid (a / b = f)) (e1 : Hid (Rt.cl a b = f + 1)) (f0 : 0 ≤ f) (f1 : f ≤ 2147483647) (u0 : 0 ≤ f * d) (u1 : f * d ≤ 2147483647) (v0 : 0 ≤ f * b) (v1 : f * b ≤ 2147483647) (hn : ¬ f + 1 ≤ c / d)
    (t0 : 0 ≤ f * p) (t1 : f * p ≤ 2147483647) (t2 : 0 ≤ q) (t3 : q ≤ 2147483647)
    (ih : Hid (∀ W : World, Calls Tryd.prog 96 #[.agg #[.int .i64 d, .int .i64 (c - f * d)], .agg #[.int .i64 b, .int .i64 (a - f * b)]] W fun e w' => e = .returned (.agg #[.int .i64 p, .int .i64 q]) ∧ Below W.heap.size W w')) :
    Calls Tryd.prog 96 #[.agg #[.int .i64 a, .int .i64 b], .agg #[.int .i64 c, .int .i64 d]] w fun e w' => e = .returned (.agg #[.int .i64 (f * p + q), .int .i64 p]) ∧ Below w.heap.size w w' := by
  have ⟨x1, x2, x3, x4, x5, x6, x7, x8, _⟩ := h
  clear h
  go_enter Tryd.func96, Tryd.ntmps96
  go_wp2_with fail
  refine (cei_any a b (by omega) (by omega) (by omega) _).mono ?_
  rintro e w2 ⟨he, hw2⟩
  rw [e1.out] at he
  subst he hw2
  go_wp2_with (go_at_call 89; refine (flo_any c d (by omega) (by omega) (by omega) _).mono ?_; rintro e w2 ⟨rfl, hw2⟩; subst hw2)
  refine (ih.out _).mono ?_
  rintro e w1 ⟨rfl, hb1⟩
  have hz_hb1 := hb1.size
  try simp at hz_hb1
  have hb1_2_k0 : w1.cell? ⟨w.heap.size + 1 + 1, 0, none⟩ = some (.int .i64 0) := (hb1.cell (p := ⟨w.heap.size + 1 + 1, 0, none⟩) (by first | (simp; done) | (simp; omega) | omega)).trans (by first | assumption | (simp [go_sem]; done) | simp [go_sem, *])
  have hb1_2_k1 : w1.cell? ⟨w.heap.size + 1 + 1, 1, none⟩ = some (.int .i64 0) := (hb1.cell (p := ⟨w.heap.size + 1 + 1, 1, none⟩) (by first | (simp; done) | (simp; omega) | omega)).trans (by first | assumption | (simp [go_sem]; done) | simp [go_sem, *])
  have hb1_2_f : ∀ o, w1.frozen? ⟨w.heap.size + 1 + 1, o, none⟩ = false := fun o => (hb1.frozen (p := ⟨w.heap.size + 1 + 1, o, none⟩) (by first | (simp; done) | (simp; omega) | omega)).trans (by first | assumption | (simp [go_sem]; done) | simp [go_sem, *])
  have hb1_2_lt : w.heap.size + 1 + 1 < w1.heap.size := Nat.lt_of_lt_of_le (m := _) (by first | (simp; done) | (simp; omega) | omega) hb1.size
  clear u0 u1 v0 v1 hn
  go_wp2
  refine bodyPost_ret (v := .agg #[.int .i64 (f * p + q), .int .i64 p]) (by simp [results, Tryd.results96, go_sem, *]) rfl ?_
  exact ⟨rfl, (by repeat (first | with_reducible exact Below.refl _ _ | with_reducible assumption | refine below_drewN ?_ _ | refine Below.drew ?_ | refine Below.alloc ?_ (by first | (simp; done) | (simp; omega) | omega) _ | refine Below.setCell ?_ (by first | (simp; done) | (simp; omega) | omega) _ | refine Below.trans ?_ (Below.mono (by assumption) (by first | (simp; done) | (simp; omega) | omega))))⟩

theorem sab_any (k : Nat) : ∀ (a b c d : Int) (w : World), (b + d).toNat ≤ k → Sim a b c d →
    Calls Tryd.prog 96 #[.agg #[.int .i64 a, .int .i64 b], .agg #[.int .i64 c, .int .i64 d]] w fun e w' => e = .returned (.agg #[.int .i64 (Rt.spl a b c d).1, .int .i64 (Rt.spl a b c d).2]) ∧ Below w.heap.size w w' := by
  induction k with
  | zero => intro a b c d w hk h; have := h.b0; have := h.d0; omega
  | succ k ih =>
    intro a b c d w hk h
    have hb := spl_bd h
    have e := Rt.spl_eq (show 0 < b by have := h.b0; omega) (show 0 < d by have := h.d0; omega) (show 0 < a by have := h.a0; omega) h.le
    by_cases hn : Rt.cl a b * d ≤ c
    · rw [if_pos hn] at e
      rw [e]
      exact sab_one a b c d w h hn
    · rw [if_neg hn] at e
      obtain ⟨hs, e1, f0, f1, u0, u1, v0, v1, hc, hm⟩ := sim_facts h hn
      have hb2 := spl_bd hs
      rw [e] at hb
      rw [e]
      have hp : 0 ≤ a / b * (Rt.spl d (c - a / b * d) b (a - a / b * b)).1 := Int.mul_nonneg f0 (by omega)
      have := h.a1; have := h.b1; have := h.d1
      exact sab_step a b c d _ _ (a / b) w h (Lib.hid rfl) (Lib.hid e1) f0 f1 u0 u1 v0 v1 (by rw [← e1]; exact hc) hp (by omega) (by omega) (by omega)
        (Lib.hid fun W => ih _ _ _ _ W (by omega) hs)

/-! ### the specification's -/
set_option maxHeartbeats 400000 in
theorem sim_one (a b c d : Int) (w : World) (h : Sim a b c d) (hn : Rt.cl a b * d ≤ c) (l0 : 0 ≤ Rt.cl a b) (l1 : Rt.cl a b ≤ 2147483647) :
    Calls Tryd.prog 97 #[.int .i64 a, .int .i64 b, .int .i64 c, .int .i64 d] w fun e w' => e = .returned (.tuple #[.int .i64 (Rt.cl a b), .int .i64 1]) ∧ w' = w := by
  have ⟨x1, x2, x3, x4, x5, x6, x7, x8, _⟩ := h
  have p := mul31 (x := Rt.cl a b) (y := d) (by omega) (by omega)
  clear h
  go_enter Tryd.func97, Tryd.ntmps97
  go_wp2_with (go_at_call 92; refine (up_any a b (by omega) (by omega) (by omega) _).mono ?_; rintro e w2 ⟨rfl, hw2⟩; subst hw2)
  go_ret2
  exact ⟨rfl, rfl⟩

set_option maxHeartbeats 1000000 in
theorem sim_step (a b c d p q f l : Int) (w : World) (h : Sim a b c d) (hf : Hid (a / b = f)) (e1 : Hid (Rt.cl a b = l)) (l0 : 0 ≤ l * d) (l1 : l * d ≤ 4294967294) (hn : ¬ l * d ≤ c) (_f0 : 0 ≤ f) (_f1 : f ≤ 2147483647) (u0 : 0 ≤ f * d) (u1 : f * d ≤ 2147483647) (v0 : 0 ≤ f * b) (v1 : f * b ≤ 2147483647)
    (t0 : 0 ≤ f * p) (t1 : f * p ≤ 2147483647) (t2 : 0 ≤ q) (t3 : q ≤ 2147483647)
    (ih : Hid (∀ W : World, Calls Tryd.prog 97 #[.int .i64 d, .int .i64 (c - f * d), .int .i64 b, .int .i64 (a - f * b)] W fun e w' => e = .returned (.tuple #[.int .i64 p, .int .i64 q]) ∧ w' = W)) :
    Calls Tryd.prog 97 #[.int .i64 a, .int .i64 b, .int .i64 c, .int .i64 d] w fun e w' => e = .returned (.tuple #[.int .i64 (f * p + q), .int .i64 p]) ∧ w' = w := by
  have ⟨x1, x2, x3, x4, x5, x6, x7, x8, _⟩ := h
  clear h
  go_enter Tryd.func97, Tryd.ntmps97
  go_wp2_with fail
  refine (up_any a b (by omega) (by omega) (by omega) _).mono ?_
  rintro e w2 ⟨he, hw2⟩
  rw [e1.out] at he
  subst he hw2
  go_wp2_with fail
  refine (down_any a b (by omega) (by omega) (by omega) _).mono ?_
  rintro e w2 ⟨he, hw2⟩
  rw [hf.out] at he
  subst he hw2
  go_wp2_with fail
  refine (ih.out _).mono ?_
  rintro e w1 ⟨rfl, hw2⟩
  subst hw2
  clear u0 u1 v0 v1 hn l0 l1
  go_wp2
  go_ret2
  exact ⟨rfl, rfl⟩

theorem sim_any (k : Nat) : ∀ (a b c d : Int) (w : World), (b + d).toNat ≤ k → Sim a b c d →
    Calls Tryd.prog 97 #[.int .i64 a, .int .i64 b, .int .i64 c, .int .i64 d] w fun e w' => e = .returned (.tuple #[.int .i64 (Rt.spl a b c d).1, .int .i64 (Rt.spl a b c d).2]) ∧ w' = w := by
  induction k with
  | zero => intro a b c d w hk h; have := h.b0; have := h.d0; omega
  | succ k ih =>
    intro a b c d w hk h
    have hb := spl_bd h
    have e := Rt.spl_eq (show 0 < b by have := h.b0; omega) (show 0 < d by have := h.d0; omega) (show 0 < a by have := h.a0; omega) h.le
    have := h.a1; have := h.b1; have := h.d1
    by_cases hn : Rt.cl a b * d ≤ c
    · rw [if_pos hn] at e
      rw [e] at hb
      rw [e]
      exact sim_one a b c d w h hn (by simp at hb; omega) (by simp at hb; omega)
    · rw [if_neg hn] at e
      obtain ⟨hs, e1, f0, f1, u0, u1, v0, v1, hc, hm⟩ := sim_facts h hn
      have hb2 := spl_bd hs
      rw [e] at hb
      rw [e]
      have hp : 0 ≤ a / b * (Rt.spl d (c - a / b * d) b (a - a / b * b)).1 := Int.mul_nonneg f0 (by omega)
      have el : Rt.cl a b * d = a / b * d + d := by rw [e1, Int.add_mul, Int.one_mul]
      exact sim_step a b c d _ _ (a / b) _ w h (Lib.hid rfl) (Lib.hid rfl) (by have := h.d0; omega) (by omega) hn f0 f1 u0 u1 v0 v1 hp (by omega) (by omega) (by omega)
        (Lib.hid fun W => ih _ _ _ _ W (by omega) hs)
end Go.Proofs.YtffabmojbelaaaaDoor
