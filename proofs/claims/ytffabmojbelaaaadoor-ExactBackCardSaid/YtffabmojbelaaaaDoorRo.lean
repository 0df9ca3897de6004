/- The contract of the specification's Fold. -/
import Derived.Test.YtffabmojbelaaaaDoorFo
namespace Go.Proofs.YtffabmojbelaaaaDoor
open Go.RowKit

set_option maxHeartbeats 400000 in
theorem rfold_long (a : Option Addr) (m cap : Nat) (h : 50 < m) (w : World) :
    Calls Tryd.prog 46 #[.slice a m cap] w fun e w' => e = .returned (refV ⟨0, 0, 2⟩) ∧ Below w.heap.size w w' := by
  have h1 : (50 : Int) < (m : Int) := by omega
  go_enter Tryd.func46, Tryd.ntmps46
  go_wp2
  refine bodyPost_ret (v := .agg #[.int .i64 0, .int .i64 0, .int .i64 2]) (by simp [results, Tryd.results46, go_sem]) rfl ?_
  exact ⟨rfl, (by repeat (first | with_reducible exact Below.refl _ _ | with_reducible assumption | refine below_drewN ?_ _ | refine Below.drew ?_ | refine Below.alloc ?_ (by first | (simp; done) | (simp; omega) | omega) _ | refine Below.setCell ?_ (by first | (simp; done) | (simp; omega) | omega) _ | refine Below.trans ?_ (Below.mono (by assumption) (by first | (simp; done) | (simp; omega) | omega))))⟩

set_option maxHeartbeats 400000 in
theorem rfold_none (a : Option Addr) (cap : Nat) (w : World) :
    Calls Tryd.prog 46 #[.slice a 0 cap] w fun e w' => e = .returned (refV ⟨0, 0, 1⟩) ∧ Below w.heap.size w w' := by
  go_enter Tryd.func46, Tryd.ntmps46
  go_wp2
  refine bodyPost_ret (v := .agg #[.int .i64 0, .int .i64 0, .int .i64 1]) (by simp [results, Tryd.results46, go_sem]) rfl ?_
  exact ⟨rfl, (by repeat (first | with_reducible exact Below.refl _ _ | with_reducible assumption | refine below_drewN ?_ _ | refine Below.drew ?_ | refine Below.alloc ?_ (by first | (simp; done) | (simp; omega) | omega) _ | refine Below.setCell ?_ (by first | (simp; done) | (simp; omega) | omega) _ | refine Below.trans ?_ (Below.mono (by assumption) (by first | (simp; done) | (simp; omega) | omega))))⟩

set_option maxRecDepth 100000 in
set_option maxHeartbeats 4000000 in
theorem rfold_cons (t : Int) (ts : List Int) (x : Addr) (m cap : Nat) (hm : Hid (m = ts.length + 1)) (m1 : 1 ≤ m) (m2 : m ≤ 50) (w : World)
    (hc : Hid (∀ k, k < m → w.cell? (x.add k) = some (.int .i64 ((t :: ts).getD k 0)))) (r : Rt.Num) (hr : Hid (Rt.foldS (t :: ts) = r)) :
    Calls Tryd.prog 46 #[.slice (some x) m cap] w fun e w' => e = .returned (refV r) ∧ Below w.heap.size w w' := by
  have i1 : (1 : Int) ≤ (m : Int) := by omega
  have i2 : (m : Int) ≤ 50 := by omega
  have i3 : ¬ (50 : Int) < (m : Int) := by omega
  have hl50 : Hid ((t :: ts).length ≤ 50) := Lib.hid (by have := hm.out; simp; omega)
  go_enter Tryd.func46, Tryd.ntmps46
  go_wp2
  have z0 : (w.alloc (Obj.cells #[.int .i64 0, .int .i64 0, .int .i64 0] 30)).cell? ⟨w.heap.size, 0, none⟩ = some (.int .i64 0) := by simp [go_sem]
  have z1 : (w.alloc (Obj.cells #[.int .i64 0, .int .i64 0, .int .i64 0] 30)).cell? ⟨w.heap.size, 1, none⟩ = some (.int .i64 0) := by simp [go_sem]
  have z2 : (w.alloc (Obj.cells #[.int .i64 0, .int .i64 0, .int .i64 0] 30)).cell? ⟨w.heap.size, 2, none⟩ = some (.int .i64 0) := by simp [go_sem]
  have zf : ∀ o, (w.alloc (Obj.cells #[.int .i64 0, .int .i64 0, .int .i64 0] 30)).frozen? ⟨w.heap.size, o, none⟩ = false := fun o => by simp [go_sem]
  have zb : Below w.heap.size w (w.alloc (Obj.cells #[.int .i64 0, .int .i64 0, .int .i64 0] 30)) := (by repeat (first | with_reducible exact Below.refl _ _ | with_reducible assumption | refine below_drewN ?_ _ | refine Below.drew ?_ | refine Below.alloc ?_ (by first | (simp; done) | (simp; omega) | omega) _ | refine Below.setCell ?_ (by first | (simp; done) | (simp; omega) | omega) _ | refine Below.trans ?_ (Below.mono (by assumption) (by first | (simp; done) | (simp; omega) | omega))))
  have zc : Hid (∀ k, k < m → (w.alloc (Obj.cells #[.int .i64 0, .int .i64 0, .int .i64 0] 30)).cell? (x.add k) = some (.int .i64 ((t :: ts).getD k 0))) := Lib.hid (fun k hk => (zb.cell (block_lt_of_cell (hc.out k hk))).trans (hc.out k hk))
  generalize w.alloc (Obj.cells #[.int .i64 0, .int .i64 0, .int .i64 0] 30) = z at *
  clear hc
  go_loopw [3] (fun i wr => ∃ k : Nat, 1 ≤ k ∧ k ≤ m ∧ i = .int .i64 k ∧ Hid (∀ j, 1 ≤ j → j < k → 1 ≤ (t :: ts).getD j 0) ∧ wr.cell? ⟨w.heap.size, 0, none⟩ = some (.int .i64 0) ∧ wr.cell? ⟨w.heap.size, 1, none⟩ = some (.int .i64 0) ∧ wr.cell? ⟨w.heap.size, 2, none⟩ = some (.int .i64 0) ∧ (∀ o, wr.frozen? ⟨w.heap.size, o, none⟩ = false) ∧ Below w.heap.size w wr ∧ Hid (∀ k, k < m → wr.cell? (x.add k) = some (.int .i64 ((t :: ts).getD k 0)))) (fun i _ => m - (RowKit.intOf i).toNat)
  case atStart => exact ⟨1, by omega, m1, rfl, Lib.hid (fun j h1 h2 => by omega), z0, z1, z2, zf, zb, zc⟩
  case round =>
    clear z0 z1 z2 zf zb zc
    obtain ⟨k, hk1, hk, rfl, hp, z0, z1, z2, zf, zb, zc⟩ := hrel
    by_cases hlt : k < m
    · have hck := zc.out k hlt
      have hi5 : (k : Int) < (m : Int) := by omega
      have hi6 : (1 : Int) ≤ (k : Int) := by omega
      obtain ⟨v, hv⟩ : ∃ v, (t :: ts).getD k 0 = v := ⟨_, rfl⟩
      rw [hv] at hck
      replace hv := Lib.hid hv
      by_cases hv1 : v < 1
      · go_wp2
        refine bodyPost_ret (v := .agg #[.int .i64 0, .int .i64 0, .int .i64 1]) (by simp [results, Tryd.results46, go_sem, *]) rfl ?_
        refine ⟨?_, (by repeat (first | with_reducible exact Below.refl _ _ | with_reducible assumption | refine below_drewN ?_ _ | refine Below.drew ?_ | refine Below.alloc ?_ (by first | (simp; done) | (simp; omega) | omega) _ | refine Below.setCell ?_ (by first | (simp; done) | (simp; omega) | omega) _ | refine Below.trans ?_ (Below.mono (by assumption) (by first | (simp; done) | (simp; omega) | omega))))⟩
        have h9 : ∃ y ∈ ts, y < 1 := by
          obtain ⟨q, rfl⟩ : ∃ q, k = q + 1 := ⟨k - 1, by omega⟩
          have hq : q < ts.length := by have := hm.out; omega
          refine ⟨ts.getD q 0, getD_mem hq, ?_⟩
          have := hv.out
          rw [List.getD_cons_succ] at this
          omega
        rw [← hr.out, Rt.fold_low hl50.out h9]
        rfl
      · go_wp2
        go_roundw
        case rel => exact ⟨k + 1, by omega, by omega, by go_num, Lib.hid (fun j h1 h2 => by
          rcases Nat.lt_or_ge j k with h | h
          · exact hp.out j h1 h
          · obtain rfl : j = k := by omega
            rw [hv.out]; omega), z0, z1, z2, zf, zb, zc⟩
        case measure => simp [RowKit.intOf]; omega
    · have hts : Hid (∀ y ∈ ts, 1 ≤ y) := Lib.hid (fun y hy => by
        obtain ⟨j, hj, rfl⟩ := List.getElem_of_mem hy
        have := hp.out (j + 1) (by omega) (by have := hm.out; omega)
        simpa [hj] using this)
      have hi5 : ¬ (k : Int) < (m : Int) := by omega
      have ek : m = k := by omega
      subst ek
      clear hp hk hk1 hlt
      go_wp2
      go_loopw [4, 5, 6, 7] (fun a b i _ wr => ((∃ q : Nat, q ≤ ts.length ∧ i = .int .i64 q ∧ a = .int .i64 (fbK ts (ts.length - q)).1 ∧ b = .int .i64 (fbK ts (ts.length - q)).2 ∧ (fbK ts (ts.length - q)).1 ≤ 2147483647) ∨
          (i = .int .i64 (-1) ∧ a = .int .i64 (t * (Rt.K ts).1 + (Rt.K ts).2) ∧ b = .int .i64 (Rt.K ts).1 ∧ (Rt.K ts).1 ≤ 2147483647 ∧ -2147483648 ≤ t ∧ t ≤ 2147483647)) ∧
          wr.cell? ⟨w.heap.size, 0, none⟩ = some (.int .i64 0) ∧ wr.cell? ⟨w.heap.size, 1, none⟩ = some (.int .i64 0) ∧ wr.cell? ⟨w.heap.size, 2, none⟩ = some (.int .i64 0) ∧ (∀ o, wr.frozen? ⟨w.heap.size, o, none⟩ = false) ∧ Below w.heap.size w wr ∧ Hid (∀ k, k < m → wr.cell? (x.add k) = some (.int .i64 ((t :: ts).getD k 0)))) (fun _ _ i _ _ => (RowKit.intOf i + 1).toNat)
      case atStart => exact ⟨.inl ⟨ts.length, Nat.le_refl _, by have := hm.out; first | (rw [this]; go_num; done) | (simp; omega), by simp [fbK_zero], by simp [fbK_zero], by simp [fbK_zero]⟩, z0, z1, z2, zf, zb, zc⟩
      case round =>
        clear z0 z1 z2 zf zb zc
        obtain ⟨hor, z0, z1, z2, zf, zb, zc⟩ := hrel
        rcases hor with ⟨q, hq, rfl, rfl, rfl, hmx⟩ | ⟨rfl, rfl, rfl, hmx, ht1, ht2⟩
        · have kp := Rt.K_pos ts hts.out
          by_cases hq0 : q = 0
          · subst hq0
            have hck := zc.out 0 (by omega)
            rw [Nat.sub_zero, fbK_all] at hmx ⊢
            obtain ⟨K1, hK1⟩ : ∃ K1, (Rt.K ts).1 = K1 := ⟨_, rfl⟩
            obtain ⟨K2, hK2⟩ : ∃ K2, (Rt.K ts).2 = K2 := ⟨_, rfl⟩
            rw [hK1, hK2] at kp ⊢
            rw [hK1] at hmx
            replace hK1 := Lib.hid hK1
            replace hK2 := Lib.hid hK2
            have hck2 : wr.cell? x = some (.int .i64 t) := hck
            clear hck
            by_cases hf : t < -2147483648 ∨ 2147483647 < t
            · replace hf := Lib.hid hf
              rcases hf.out with h | h
              · go_wp2
                refine bodyPost_ret (v := .agg #[.int .i64 0, .int .i64 0, .int .i64 3]) (by simp [results, Tryd.results46, go_sem, *]) rfl ?_
                refine ⟨?_, (by repeat (first | with_reducible exact Below.refl _ _ | with_reducible assumption | refine below_drewN ?_ _ | refine Below.drew ?_ | refine Below.alloc ?_ (by first | (simp; done) | (simp; omega) | omega) _ | refine Below.setCell ?_ (by first | (simp; done) | (simp; omega) | omega) _ | refine Below.trans ?_ (Below.mono (by assumption) (by first | (simp; done) | (simp; omega) | omega))))⟩
                rw [← hr.out, Rt.fold_far hl50.out hts.out hf.out]
                rfl
              · go_wp2
                refine bodyPost_ret (v := .agg #[.int .i64 0, .int .i64 0, .int .i64 3]) (by simp [results, Tryd.results46, go_sem, *]) rfl ?_
                refine ⟨?_, (by repeat (first | with_reducible exact Below.refl _ _ | with_reducible assumption | refine below_drewN ?_ _ | refine Below.drew ?_ | refine Below.alloc ?_ (by first | (simp; done) | (simp; omega) | omega) _ | refine Below.setCell ?_ (by first | (simp; done) | (simp; omega) | omega) _ | refine Below.trans ?_ (Below.mono (by assumption) (by first | (simp; done) | (simp; omega) | omega))))⟩
                rw [← hr.out, Rt.fold_far hl50.out hts.out hf.out]
                rfl
            · have hst := Rt.K_step (t := t) (n := K1) (d := K2) (by omega) (by omega) (by omega)
              have f1 : -2147483648 ≤ t ∧ t ≤ 2147483647 := by omega
              have f2 : -4611686018427387904 ≤ t * K1 ∧ t * K1 ≤ 4611686018427387904 := hst
              clear hf hst
              by_cases hn : 2147483647 < t * K1 + K2
              · go_wp2
                go_roundw
                case rel => exact ⟨.inr ⟨by go_num, rfl, rfl, hmx, f1.1, f1.2⟩, z0, z1, z2, zf, zb, zc⟩
                case measure => simp [RowKit.intOf]
              · go_wp2
                go_roundw
                case rel => exact ⟨.inr ⟨by go_num, rfl, rfl, hmx, f1.1, f1.2⟩, z0, z1, z2, zf, zb, zc⟩
                case measure => simp [RowKit.intOf]
          · obtain ⟨j, hj⟩ : ∃ j, ts.length - q = j := ⟨_, rfl⟩
            have hjl : j < ts.length := by omega
            have e1 : ts.length - 1 - j = q - 1 := by omega
            have st := fbK_step hjl
            have up := fbK_up hts.out hjl
            have mo := fbK_mono hts.out (j + 1)
            have po := fbK_pos hts.out j
            have hck := zc.out q (by have := hm.out; omega)
            have e2 : (t :: ts).getD q 0 = ts.getD (q - 1) 0 := by
              obtain ⟨p, rfl⟩ : ∃ p, q = p + 1 := ⟨q - 1, by omega⟩
              rfl
            rw [e2] at hck
            rw [e1] at st up
            rw [hj] at hmx ⊢
            obtain ⟨v, hv⟩ : ∃ v, ts.getD (q - 1) 0 = v := ⟨_, rfl⟩
            rw [hv] at hck st up
            obtain ⟨⟨x0, y0⟩, hx0⟩ : ∃ p, fbK ts j = p := ⟨_, rfl⟩
            rw [hx0] at st po hmx ⊢
            rw [st] at up mo
            simp only at up mo po hmx ⊢
            have j1 : (1 : Int) ≤ (q : Int) := by omega
            have j2 : (q : Int) < (m : Int) := by have := hm.out; omega
            have j3 : q < m := by omega
            have hbigI : 2147483647 < v * x0 + y0 → Hid (2147483647 < (Rt.K ts).1) := fun h => Lib.hid (by omega)
            have up1 := up.1
            have up2 := up.2
            replace hx0 := Lib.hid hx0
            replace st := Lib.hid st
            replace hv := Lib.hid hv
            replace hj := Lib.hid hj
            clear mo up e1 e2 kp
            by_cases hv1 : 2147483647 < v
            · have hbig := hbigI (by omega)
              clear hbigI up2
              go_wp2
              refine bodyPost_ret (v := .agg #[.int .i64 0, .int .i64 0, .int .i64 3]) (by simp [results, Tryd.results46, go_sem, *]) rfl ?_
              refine ⟨?_, (by repeat (first | with_reducible exact Below.refl _ _ | with_reducible assumption | refine below_drewN ?_ _ | refine Below.drew ?_ | refine Below.alloc ?_ (by first | (simp; done) | (simp; omega) | omega) _ | refine Below.setCell ?_ (by first | (simp; done) | (simp; omega) | omega) _ | refine Below.trans ?_ (Below.mono (by assumption) (by first | (simp; done) | (simp; omega) | omega))))⟩
              rw [← hr.out, Rt.fold_big hl50.out hts.out hbig.out]
              rfl
            · have hst := Rt.K_step (t := v) (n := x0) (d := y0) (by omega) (by omega) (by omega)
              have f2 : -4611686018427387904 ≤ v * x0 ∧ v * x0 ≤ 4611686018427387904 := hst
              clear hst
              by_cases hn : 2147483647 < v * x0 + y0
              · have hbig := hbigI hn
                clear hbigI
                go_wp2
                refine bodyPost_ret (v := .agg #[.int .i64 0, .int .i64 0, .int .i64 3]) (by simp [results, Tryd.results46, go_sem, *]) rfl ?_
                refine ⟨?_, (by repeat (first | with_reducible exact Below.refl _ _ | with_reducible assumption | refine below_drewN ?_ _ | refine Below.drew ?_ | refine Below.alloc ?_ (by first | (simp; done) | (simp; omega) | omega) _ | refine Below.setCell ?_ (by first | (simp; done) | (simp; omega) | omega) _ | refine Below.trans ?_ (Below.mono (by assumption) (by first | (simp; done) | (simp; omega) | omega))))⟩
                rw [← hr.out, Rt.fold_big hl50.out hts.out hbig.out]
                rfl
              · clear hbigI
                go_wp2
                go_roundw
                case rel =>
                  have e3 : ts.length - (q - 1) = j + 1 := by have := hj.out; omega
                  exact ⟨.inl ⟨q - 1, by omega, by go_num, by rw [e3, st.out], by rw [e3, st.out], by rw [e3, st.out]; show v * x0 + y0 ≤ _; omega⟩, z0, z1, z2, zf, zb, zc⟩
                case measure => simp [RowKit.intOf]
        · have kp := Rt.K_pos ts hts.out
          have ff := Rt.fold_fit hl50.out hts.out hmx
          obtain ⟨K1, hK1⟩ : ∃ K1, (Rt.K ts).1 = K1 := ⟨_, rfl⟩
          obtain ⟨K2, hK2⟩ : ∃ K2, (Rt.K ts).2 = K2 := ⟨_, rfl⟩
          rw [hK1, hK2] at kp ff ⊢
          rw [hr.out] at ff
          replace ff := Lib.hid ff
          clear hK1 hK2 hmx
          generalize t * K1 + K2 = N at *
          by_cases hN : -2147483647 ≤ N ∧ N ≤ 2147483647
          · obtain ⟨h1, h2⟩ := hN
            go_wp2
            refine bodyPost_ret (v := .agg #[.int .i64 N, .int .i64 K1, .int .i64 0]) (by simp [results, Tryd.results46, go_sem, *]) rfl ?_
            refine ⟨?_, (by repeat (first | with_reducible exact Below.refl _ _ | with_reducible assumption | refine below_drewN ?_ _ | refine Below.drew ?_ | refine Below.alloc ?_ (by first | (simp; done) | (simp; omega) | omega) _ | refine Below.setCell ?_ (by first | (simp; done) | (simp; omega) | omega) _ | refine Below.trans ?_ (Below.mono (by assumption) (by first | (simp; done) | (simp; omega) | omega))))⟩
            rw [ff.out, if_pos ⟨h1, h2⟩]
            rfl
          · have hN2 : N < -2147483647 ∨ 2147483647 < N := by omega
            replace hN := Lib.hid hN
            rcases hN2 with h | h
            · go_wp2
              refine bodyPost_ret (v := .agg #[.int .i64 0, .int .i64 0, .int .i64 3]) (by simp [results, Tryd.results46, go_sem, *]) rfl ?_
              refine ⟨?_, (by repeat (first | with_reducible exact Below.refl _ _ | with_reducible assumption | refine below_drewN ?_ _ | refine Below.drew ?_ | refine Below.alloc ?_ (by first | (simp; done) | (simp; omega) | omega) _ | refine Below.setCell ?_ (by first | (simp; done) | (simp; omega) | omega) _ | refine Below.trans ?_ (Below.mono (by assumption) (by first | (simp; done) | (simp; omega) | omega))))⟩
              rw [ff.out, if_neg hN.out]
              rfl
            · go_wp2
              refine bodyPost_ret (v := .agg #[.int .i64 0, .int .i64 0, .int .i64 3]) (by simp [results, Tryd.results46, go_sem, *]) rfl ?_
              refine ⟨?_, (by repeat (first | with_reducible exact Below.refl _ _ | with_reducible assumption | refine below_drewN ?_ _ | refine Below.drew ?_ | refine Below.alloc ?_ (by first | (simp; done) | (simp; omega) | omega) _ | refine Below.setCell ?_ (by first | (simp; done) | (simp; omega) | omega) _ | refine Below.trans ?_ (Below.mono (by assumption) (by first | (simp; done) | (simp; omega) | omega))))⟩
              rw [ff.out, if_neg hN.out]
              rfl

theorem rfold_any (l : List Int) (a : Option Addr) (cap : Nat) (w : World) (hc : ∀ k, k < l.length → ∃ x, a = some x ∧ w.cell? (x.add k) = some (.int .i64 (l.getD k 0))) :
    Calls Tryd.prog 46 #[.slice a l.length cap] w fun e w' => e = .returned (refV (Rt.foldS l)) ∧ Below w.heap.size w w' := by
  by_cases h : 50 < l.length
  · rw [Rt.fold_long h]; exact rfold_long a _ cap h w
  · cases l with
    | nil => rw [Rt.fold_none]; exact rfold_none a cap w
    | cons t ts =>
      obtain ⟨x, rfl, _⟩ := hc 0 (by simp)
      refine rfold_cons t ts x _ cap (Lib.hid rfl) (by simp) (by simp at h ⊢; omega) w (Lib.hid fun k hk => ?_) _ (Lib.hid rfl)
      obtain ⟨y, hy, h2⟩ := hc k hk
      cases hy
      exact h2
end Go.Proofs.YtffabmojbelaaaaDoor
