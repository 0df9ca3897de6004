/- The contract of Fold of package exact. -/
import Derived.Test.YtffabmojbelaaaaDoorFb
import Derived.Test.YtffabmojbelaaaaDoorKq
namespace Go.Proofs.YtffabmojbelaaaaDoor
open Go.RowKit

set_option maxHeartbeats 400000 in
theorem xfold_long (a : Option Addr) (m cap : Nat) (h : 50 < m) (w : World) :
    Calls Tryd.prog 45 #[.slice a m cap] w fun e w' => e = .returned (numV ⟨0, 0, 2⟩) ∧ Below w.heap.size w w' := by
  have h1 : (50 : Int) < (m : Int) := by omega
  go_enter Tryd.func45, Tryd.ntmps45
  go_wp2
  refine bodyPost_ret (v := .tuple #[.agg #[.int .i64 0, .int .i64 0], .int .i64 2]) (by simp [results, Tryd.results45, go_sem]) rfl ?_
  exact ⟨rfl, (by repeat (first | with_reducible exact Below.refl _ _ | with_reducible assumption | refine below_drewN ?_ _ | refine Below.drew ?_ | refine Below.alloc ?_ (by first | (simp; done) | (simp; omega) | omega) _ | refine Below.setCell ?_ (by first | (simp; done) | (simp; omega) | omega) _ | refine Below.trans ?_ (Below.mono (by assumption) (by first | (simp; done) | (simp; omega) | omega))))⟩

set_option maxHeartbeats 400000 in
theorem xfold_none (a : Option Addr) (cap : Nat) (w : World) :
    Calls Tryd.prog 45 #[.slice a 0 cap] w fun e w' => e = .returned (numV ⟨0, 0, 1⟩) ∧ Below w.heap.size w w' := by
  go_enter Tryd.func45, Tryd.ntmps45
  go_wp2
  refine bodyPost_ret (v := .tuple #[.agg #[.int .i64 0, .int .i64 0], .int .i64 1]) (by simp [results, Tryd.results45, go_sem]) rfl ?_
  exact ⟨rfl, (by repeat (first | with_reducible exact Below.refl _ _ | with_reducible assumption | refine below_drewN ?_ _ | refine Below.drew ?_ | refine Below.alloc ?_ (by first | (simp; done) | (simp; omega) | omega) _ | refine Below.setCell ?_ (by first | (simp; done) | (simp; omega) | omega) _ | refine Below.trans ?_ (Below.mono (by assumption) (by first | (simp; done) | (simp; omega) | omega))))⟩

theorem getD_mem {l : List Int} {k : Nat} (h : k < l.length) : l.getD k 0 ∈ l := by
  rw [List.getD_eq_getElem?_getD, List.getElem?_eq_getElem h]; exact List.getElem_mem h
theorem add_one (x : Addr) (k : Nat) : (⟨x.block, x.off + 1, none⟩ : Addr).add k = ⟨x.block, x.off + 1 + k, none⟩ := by
  unfold Addr.add
  by_cases h : k = 0
  · subst h; rfl
  · rw [if_neg h]
theorem add_suc (x : Addr) (k : Nat) : x.add (k + 1) = ⟨x.block, x.off + 1 + k, none⟩ := by
  unfold Addr.add
  rw [if_neg (by omega), Nat.add_assoc, Nat.add_comm 1 k]

theorem fz_alloc {W W' : World} {o : Obj} {b : Nat} (h : ∀ i, W.frozen? ⟨b, i, none⟩ = false) (hl : b < W.heap.size) (hb : Below (W.alloc o).heap.size (W.alloc o) W') : ∀ i, W'.frozen? ⟨b, i, none⟩ = false := fun i =>
  (hb.frozen (p := ⟨b, i, none⟩) (by show b < (W.alloc o).heap.size; simp; omega)).trans ((((Below.refl _ _).alloc (Nat.le_refl _) o).frozen (p := ⟨b, i, none⟩) hl).trans (h i))

set_option maxRecDepth 100000 in
set_option maxHeartbeats 4000000 in
theorem xfold_cons (t : Int) (ts : List Int) (x : Addr) (m cap : Nat) (hm : Hid (m = ts.length + 1)) (m1 : 1 ≤ m) (m2 : m ≤ 50) (hcap : m ≤ cap) (hcm : cap ≤ maxLen) (w : World)
    (hc : Hid (∀ k, k < m → w.cell? (x.add k) = some (.int .i64 ((t :: ts).getD k 0)))) (r : Rt.Num) (hr : Hid (Rt.foldS (t :: ts) = r)) :
    Calls Tryd.prog 45 #[.slice (some x) m cap] w fun e w' => e = .returned (numV r) ∧ Below w.heap.size w w' := by
  have i1 : (1 : Int) ≤ (m : Int) := by omega
  have i2 : (m : Int) ≤ 50 := by omega
  have i3 : ¬ (50 : Int) < (m : Int) := by omega
  have i4 : (m : Int) ≤ (cap : Int) := by omega
  have c0 : w.cell? x = some (.int .i64 t) := hc.out 0 (by omega)
  have bx : x.block < w.heap.size := block_lt_of_cell c0
  have cm : (cap : Int) ≤ 9223372036854775807 := by unfold maxLen at hcm; omega
  have hl50 : Hid ((t :: ts).length ≤ 50) := Lib.hid (by have := hm.out; simp; omega)
  go_enter Tryd.func45, Tryd.ntmps45
  go_wp2_with fail
  go_region
  go_wp2
  case inl =>
    have z0 : ((w.alloc (Obj.cells #[.int .i64 0, .int .i64 0] 23)).drew).cell? ⟨w.heap.size, 0, none⟩ = some (.int .i64 0) := by simp [go_sem]
    have z1 : ((w.alloc (Obj.cells #[.int .i64 0, .int .i64 0] 23)).drew).cell? ⟨w.heap.size, 1, none⟩ = some (.int .i64 0) := by simp [go_sem]
    have zf : ∀ o, ((w.alloc (Obj.cells #[.int .i64 0, .int .i64 0] 23)).drew).frozen? ⟨w.heap.size, o, none⟩ = false := fun o => by simp [go_sem]
    have zb : Below w.heap.size w ((w.alloc (Obj.cells #[.int .i64 0, .int .i64 0] 23)).drew) := (by repeat (first | with_reducible exact Below.refl _ _ | with_reducible assumption | refine below_drewN ?_ _ | refine Below.drew ?_ | refine Below.alloc ?_ (by first | (simp; done) | (simp; omega) | omega) _ | refine Below.setCell ?_ (by first | (simp; done) | (simp; omega) | omega) _ | refine Below.trans ?_ (Below.mono (by assumption) (by first | (simp; done) | (simp; omega) | omega))))
    generalize (w.alloc (Obj.cells #[.int .i64 0, .int .i64 0] 23)).drew = z at *
    clear hc c0 bx
    go_loopw [7, 25] (fun _ i wr => ∃ k : Nat, k ≤ m - 1 ∧ i = .int .i64 k ∧ Hid (∀ j, j < k → 1 ≤ ts.getD j 0) ∧ wr.cell? ⟨w.heap.size, 0, none⟩ = some (.int .i64 0) ∧ wr.cell? ⟨w.heap.size, 1, none⟩ = some (.int .i64 0) ∧ (∀ o, wr.frozen? ⟨w.heap.size, o, none⟩ = false) ∧ Below w.heap.size w wr) (fun _ i _ => m - 1 - (RowKit.intOf i).toNat)
    case atStart => exact ⟨0, Nat.zero_le _, rfl, Lib.hid (fun j hj => by omega), z0, z1, zf, zb⟩
    case round =>
      clear z0 z1 zf zb
      obtain ⟨k, hk, rfl, hp, z0, z1, zf, zb⟩ := hrel
      by_cases hlt : k < m - 1
      · exfalso; omega
      · have hts : Hid (∀ y ∈ ts, 1 ≤ y) := Lib.hid (fun y hy => by
          obtain ⟨j, hj, rfl⟩ := List.getElem_of_mem hy
          have := hp.out j (by have := hm.out; omega)
          simpa [hj] using this)
        have hi5 : ¬ (k : Int) < ((m - 1 : Nat) : Int) := by omega
        have FB := foldback_any ts (some x) 0 (by have := hm.out; omega) hts.out wr
        rw [show ts.length = m - 1 by have := hm.out; omega] at FB
        have FB2 := Lib.hid (FB (fun j hj => ⟨_, rfl, absurd hj (by omega)⟩))
        have kp := Rt.K_pos ts hts.out
        obtain ⟨K1, hK1⟩ : ∃ K1, (Rt.K ts).1 = K1 := ⟨_, rfl⟩
        obtain ⟨K2, hK2⟩ : ∃ K2, (Rt.K ts).2 = K2 := ⟨_, rfl⟩
        rw [hK1, hK2] at kp FB2
        replace hK1 := Lib.hid hK1
        replace hK2 := Lib.hid hK2
        clear FB hp hk hlt
        by_cases hbig : K1 ≤ 2147483647
        · rw [if_pos hbig] at FB2
          unfold numV at FB2
          by_cases hf : t < -2147483648 ∨ 2147483647 < t
          · replace hf := Lib.hid hf
            go_wp2_with fail
            refine FB2.out.mono ?_
            rintro e w3 ⟨rfl, hb3⟩
            have w30 : w3.cell? ⟨w.heap.size, 0, none⟩ = some (.int .i64 0) := kept1 z0 hb3
            have w31 : w3.cell? ⟨w.heap.size, 1, none⟩ = some (.int .i64 0) := kept1 z1 hb3
            have w3f : ∀ o, w3.frozen? ⟨w.heap.size, o, none⟩ = false := fun o => (hb3.frozen (p := ⟨w.heap.size, o, none⟩) (by exact block_lt_of_cell (a := ⟨w.heap.size, 0, none⟩) z0)).trans (zf o)
            have w3b : Below w.heap.size w w3 := zb.trans (hb3.mono zb.size)
            have w3l : w.heap.size < w3.heap.size := block_lt_of_cell w30
            have w3m : w.heap.size < w3.heap.size + 1 := by omega
            clear z0 z1 zf zb hb3
            rcases hf.out with h | h
            · go_wp2
              refine bodyPost_ret (v := .tuple #[.agg #[.int .i64 0, .int .i64 0], .int .i64 3]) (by simp [results, Tryd.results45, go_sem, *]) rfl ?_
              refine ⟨?_, (by repeat (first | with_reducible exact Below.refl _ _ | with_reducible assumption | refine below_drewN ?_ _ | refine Below.drew ?_ | refine Below.alloc ?_ (by first | (simp; done) | (simp; omega) | omega) _ | refine Below.setCell ?_ (by first | (simp; done) | (simp; omega) | omega) _ | refine Below.trans ?_ (Below.mono (by assumption) (by first | (simp; done) | (simp; omega) | omega))))⟩
              rw [← hr.out, Rt.fold_far hl50.out hts.out hf.out]
              rfl
            · go_wp2
              refine bodyPost_ret (v := .tuple #[.agg #[.int .i64 0, .int .i64 0], .int .i64 3]) (by simp [results, Tryd.results45, go_sem, *]) rfl ?_
              refine ⟨?_, (by repeat (first | with_reducible exact Below.refl _ _ | with_reducible assumption | refine below_drewN ?_ _ | refine Below.drew ?_ | refine Below.alloc ?_ (by first | (simp; done) | (simp; omega) | omega) _ | refine Below.setCell ?_ (by first | (simp; done) | (simp; omega) | omega) _ | refine Below.trans ?_ (Below.mono (by assumption) (by first | (simp; done) | (simp; omega) | omega))))⟩
              rw [← hr.out, Rt.fold_far hl50.out hts.out hf.out]
              rfl
          · have hst := Rt.K_step (t := t) (n := K1) (d := K2) (by omega) (by omega) (by omega)
            have f1 : -2147483648 ≤ t ∧ t ≤ 2147483647 := by omega
            have f2 : -4611686018427387904 ≤ t * K1 ∧ t * K1 ≤ 4611686018427387904 := hst
            clear hf hst
            have hmk : Hid (Rt.mk (t * K1 + K2) K1 = r) := Lib.hid (by rw [← hr.out, Rt.fold_mk hl50.out hts.out, hK1.out, hK2.out])
            go_wp2_with fail
            refine FB2.out.mono ?_
            rintro e w3 ⟨rfl, hb3⟩
            have w30 : w3.cell? ⟨w.heap.size, 0, none⟩ = some (.int .i64 0) := kept1 z0 hb3
            have w31 : w3.cell? ⟨w.heap.size, 1, none⟩ = some (.int .i64 0) := kept1 z1 hb3
            have w3f : ∀ o, w3.frozen? ⟨w.heap.size, o, none⟩ = false := fun o => (hb3.frozen (p := ⟨w.heap.size, o, none⟩) (by exact block_lt_of_cell (a := ⟨w.heap.size, 0, none⟩) z0)).trans (zf o)
            have w3b : Below w.heap.size w w3 := zb.trans (hb3.mono zb.size)
            have w3l : w.heap.size < w3.heap.size := block_lt_of_cell w30
            have w3m : w.heap.size < w3.heap.size + 1 := by omega
            clear z0 z1 zf zb hb3
            go_wp2_with fail
            refine (make_any (t * K1 + K2) K1 (by omega) (by omega) (by omega) (by omega) _).mono ?_
            rintro e w4 ⟨he, hb4⟩
            rw [hmk.out, numV_eq] at he
            subst he
            have w40 : w4.cell? ⟨w.heap.size, 0, none⟩ = some (.int .i64 0) := kept1 (cell_alloc w30 _) hb4
            have w41 : w4.cell? ⟨w.heap.size, 1, none⟩ = some (.int .i64 0) := kept1 (cell_alloc w31 _) hb4
            have w4f : ∀ o, w4.frozen? ⟨w.heap.size, o, none⟩ = false := fz_alloc w3f w3l hb4
            have w4b : Below w.heap.size w w4 := bstep1 w3b hb4
            have w4l : w.heap.size < w4.heap.size := block_lt_of_cell w40
            clear w30 w31 w3f w3b hb4
            go_wp2
            refine bodyPost_ret (v := .tuple #[.agg #[.int .i64 r.n, .int .i64 r.d], .int .i64 r.e]) (by simp [results, Tryd.results45, go_sem, *]) rfl ?_
            exact ⟨rfl, (by repeat (first | with_reducible exact Below.refl _ _ | with_reducible assumption | refine below_drewN ?_ _ | refine Below.drew ?_ | refine Below.alloc ?_ (by first | (simp; done) | (simp; omega) | omega) _ | refine Below.setCell ?_ (by first | (simp; done) | (simp; omega) | omega) _ | refine Below.trans ?_ (Below.mono (by assumption) (by first | (simp; done) | (simp; omega) | omega))))⟩
        · rw [if_neg hbig] at FB2
          unfold numV at FB2
          go_wp2_with fail
          refine FB2.out.mono ?_
          rintro e w3 ⟨rfl, hb3⟩
          have w30 : w3.cell? ⟨w.heap.size, 0, none⟩ = some (.int .i64 0) := kept1 z0 hb3
          have w31 : w3.cell? ⟨w.heap.size, 1, none⟩ = some (.int .i64 0) := kept1 z1 hb3
          have w3f : ∀ o, w3.frozen? ⟨w.heap.size, o, none⟩ = false := fun o => (hb3.frozen (p := ⟨w.heap.size, o, none⟩) (by exact block_lt_of_cell (a := ⟨w.heap.size, 0, none⟩) z0)).trans (zf o)
          have w3b : Below w.heap.size w w3 := zb.trans (hb3.mono zb.size)
          have w3l : w.heap.size < w3.heap.size := block_lt_of_cell w30
          have w3m : w.heap.size < w3.heap.size + 1 := by omega
          clear z0 z1 zf zb hb3
          go_wp2
          refine bodyPost_ret (v := .tuple #[.agg #[.int .i64 0, .int .i64 0], .int .i64 3]) (by simp [results, Tryd.results45, go_sem, *]) rfl ?_
          refine ⟨?_, (by repeat (first | with_reducible exact Below.refl _ _ | with_reducible assumption | refine below_drewN ?_ _ | refine Below.drew ?_ | refine Below.alloc ?_ (by first | (simp; done) | (simp; omega) | omega) _ | refine Below.setCell ?_ (by first | (simp; done) | (simp; omega) | omega) _ | refine Below.trans ?_ (Below.mono (by assumption) (by first | (simp; done) | (simp; omega) | omega))))⟩
          rw [← hr.out, Rt.fold_big hl50.out hts.out (by rw [hK1.out]; omega)]
          rfl
  case inr =>
    have z0 : ((w.alloc (Obj.cells #[.int .i64 0, .int .i64 0] 23)).drew).cell? ⟨w.heap.size, 0, none⟩ = some (.int .i64 0) := by simp [go_sem]
    have z1 : ((w.alloc (Obj.cells #[.int .i64 0, .int .i64 0] 23)).drew).cell? ⟨w.heap.size, 1, none⟩ = some (.int .i64 0) := by simp [go_sem]
    have zf : ∀ o, ((w.alloc (Obj.cells #[.int .i64 0, .int .i64 0] 23)).drew).frozen? ⟨w.heap.size, o, none⟩ = false := fun o => by simp [go_sem]
    have zb : Below w.heap.size w ((w.alloc (Obj.cells #[.int .i64 0, .int .i64 0] 23)).drew) := (by repeat (first | with_reducible exact Below.refl _ _ | with_reducible assumption | refine below_drewN ?_ _ | refine Below.drew ?_ | refine Below.alloc ?_ (by first | (simp; done) | (simp; omega) | omega) _ | refine Below.setCell ?_ (by first | (simp; done) | (simp; omega) | omega) _ | refine Below.trans ?_ (Below.mono (by assumption) (by first | (simp; done) | (simp; omega) | omega))))
    have zc : Hid (∀ k, k < m - 1 → ((w.alloc (Obj.cells #[.int .i64 0, .int .i64 0] 23)).drew).cell? ⟨x.block, x.off + 1 + k, none⟩ = some (.int .i64 (ts.getD k 0))) := Lib.hid (fun k hk => by
      have h := hc.out (k + 1) (by omega)
      rw [add_suc] at h
      refine (zb.cell (by exact bx)).trans ?_
      simpa using h)
    generalize (w.alloc (Obj.cells #[.int .i64 0, .int .i64 0] 23)).drew = z at *
    clear hc c0 bx
    go_loopw [7, 25] (fun _ i wr => ∃ k : Nat, k ≤ m - 1 ∧ i = .int .i64 k ∧ Hid (∀ j, j < k → 1 ≤ ts.getD j 0) ∧ wr.cell? ⟨w.heap.size, 0, none⟩ = some (.int .i64 0) ∧ wr.cell? ⟨w.heap.size, 1, none⟩ = some (.int .i64 0) ∧ (∀ o, wr.frozen? ⟨w.heap.size, o, none⟩ = false) ∧ Below w.heap.size w wr ∧ Hid (∀ k, k < m - 1 → wr.cell? ⟨x.block, x.off + 1 + k, none⟩ = some (.int .i64 (ts.getD k 0)))) (fun _ i _ => m - 1 - (RowKit.intOf i).toNat)
    case atStart => exact ⟨0, Nat.zero_le _, rfl, Lib.hid (fun j hj => by omega), z0, z1, zf, zb, zc⟩
    case round =>
      clear z0 z1 zf zb zc
      obtain ⟨k, hk, rfl, hp, z0, z1, zf, zb, zc⟩ := hrel
      by_cases hlt : k < m - 1
      · have hck := zc.out k hlt
        have hi5 : (k : Int) < ((m - 1 : Nat) : Int) := by omega
        obtain ⟨v, hv⟩ : ∃ v, ts.getD k 0 = v := ⟨_, rfl⟩
        rw [hv] at hck
        replace hv := Lib.hid hv
        by_cases hv1 : v < 1
        · go_wp2
          refine bodyPost_ret (v := .tuple #[.agg #[.int .i64 0, .int .i64 0], .int .i64 1]) (by simp [results, Tryd.results45, go_sem, *]) rfl ?_
          refine ⟨?_, (by repeat (first | with_reducible exact Below.refl _ _ | with_reducible assumption | refine below_drewN ?_ _ | refine Below.drew ?_ | refine Below.alloc ?_ (by first | (simp; done) | (simp; omega) | omega) _ | refine Below.setCell ?_ (by first | (simp; done) | (simp; omega) | omega) _ | refine Below.trans ?_ (Below.mono (by assumption) (by first | (simp; done) | (simp; omega) | omega))))⟩
          rw [← hr.out, Rt.fold_low hl50.out ⟨ts.getD k 0, getD_mem (by have := hm.out; omega), by rw [hv.out]; exact hv1⟩]
          rfl
        · go_wp2
          go_roundw
          case rel => exact ⟨k + 1, by omega, by go_num, Lib.hid (fun j hj => by
            rcases Nat.lt_or_ge j k with h | h
            · exact hp.out j h
            · obtain rfl : j = k := by omega
              rw [hv.out]; omega), z0, z1, zf, zb, zc⟩
          case measure => simp [RowKit.intOf]; omega
      · have hts : Hid (∀ y ∈ ts, 1 ≤ y) := Lib.hid (fun y hy => by
          obtain ⟨j, hj, rfl⟩ := List.getElem_of_mem hy
          have := hp.out j (by have := hm.out; omega)
          simpa [hj] using this)
        have hi5 : ¬ (k : Int) < ((m - 1 : Nat) : Int) := by omega
        have FB := foldback_any ts (some ⟨x.block, x.off + 1, none⟩) (cap - 1) (by have := hm.out; omega) hts.out wr
        rw [show ts.length = m - 1 by have := hm.out; omega] at FB
        have FB2 := Lib.hid (FB (fun j hj => ⟨_, rfl, by rw [add_one]; exact zc.out j hj⟩))
        have kp := Rt.K_pos ts hts.out
        obtain ⟨K1, hK1⟩ : ∃ K1, (Rt.K ts).1 = K1 := ⟨_, rfl⟩
        obtain ⟨K2, hK2⟩ : ∃ K2, (Rt.K ts).2 = K2 := ⟨_, rfl⟩
        rw [hK1, hK2] at kp FB2
        replace hK1 := Lib.hid hK1
        replace hK2 := Lib.hid hK2
        clear FB hp hk hlt zc
        by_cases hbig : K1 ≤ 2147483647
        · rw [if_pos hbig] at FB2
          unfold numV at FB2
          by_cases hf : t < -2147483648 ∨ 2147483647 < t
          · replace hf := Lib.hid hf
            go_wp2_with fail
            refine FB2.out.mono ?_
            rintro e w3 ⟨rfl, hb3⟩
            have w30 : w3.cell? ⟨w.heap.size, 0, none⟩ = some (.int .i64 0) := kept1 z0 hb3
            have w31 : w3.cell? ⟨w.heap.size, 1, none⟩ = some (.int .i64 0) := kept1 z1 hb3
            have w3f : ∀ o, w3.frozen? ⟨w.heap.size, o, none⟩ = false := fun o => (hb3.frozen (p := ⟨w.heap.size, o, none⟩) (by exact block_lt_of_cell (a := ⟨w.heap.size, 0, none⟩) z0)).trans (zf o)
            have w3b : Below w.heap.size w w3 := zb.trans (hb3.mono zb.size)
            have w3l : w.heap.size < w3.heap.size := block_lt_of_cell w30
            have w3m : w.heap.size < w3.heap.size + 1 := by omega
            clear z0 z1 zf zb hb3
            rcases hf.out with h | h
            · go_wp2
              refine bodyPost_ret (v := .tuple #[.agg #[.int .i64 0, .int .i64 0], .int .i64 3]) (by simp [results, Tryd.results45, go_sem, *]) rfl ?_
              refine ⟨?_, (by repeat (first | with_reducible exact Below.refl _ _ | with_reducible assumption | refine below_drewN ?_ _ | refine Below.drew ?_ | refine Below.alloc ?_ (by first | (simp; done) | (simp; omega) | omega) _ | refine Below.setCell ?_ (by first | (simp; done) | (simp; omega) | omega) _ | refine Below.trans ?_ (Below.mono (by assumption) (by first | (simp; done) | (simp; omega) | omega))))⟩
              rw [← hr.out, Rt.fold_far hl50.out hts.out hf.out]
              rfl
            · go_wp2
              refine bodyPost_ret (v := .tuple #[.agg #[.int .i64 0, .int .i64 0], .int .i64 3]) (by simp [results, Tryd.results45, go_sem, *]) rfl ?_
              refine ⟨?_, (by repeat (first | with_reducible exact Below.refl _ _ | with_reducible assumption | refine below_drewN ?_ _ | refine Below.drew ?_ | refine Below.alloc ?_ (by first | (simp; done) | (simp; omega) | omega) _ | refine Below.setCell ?_ (by first | (simp; done) | (simp; omega) | omega) _ | refine Below.trans ?_ (Below.mono (by assumption) (by first | (simp; done) | (simp; omega) | omega))))⟩
              rw [← hr.out, Rt.fold_far hl50.out hts.out hf.out]
              rfl
          · have hst := Rt.K_step (t := t) (n := K1) (d := K2) (by omega) (by omega) (by omega)
            have f1 : -2147483648 ≤ t ∧ t ≤ 2147483647 := by omega
            have f2 : -4611686018427387904 ≤ t * K1 ∧ t * K1 ≤ 4611686018427387904 := hst
            clear hf hst
            have hmk : Hid (Rt.mk (t * K1 + K2) K1 = r) := Lib.hid (by rw [← hr.out, Rt.fold_mk hl50.out hts.out, hK1.out, hK2.out])
            go_wp2_with fail
            refine FB2.out.mono ?_
            rintro e w3 ⟨rfl, hb3⟩
            have w30 : w3.cell? ⟨w.heap.size, 0, none⟩ = some (.int .i64 0) := kept1 z0 hb3
            have w31 : w3.cell? ⟨w.heap.size, 1, none⟩ = some (.int .i64 0) := kept1 z1 hb3
            have w3f : ∀ o, w3.frozen? ⟨w.heap.size, o, none⟩ = false := fun o => (hb3.frozen (p := ⟨w.heap.size, o, none⟩) (by exact block_lt_of_cell (a := ⟨w.heap.size, 0, none⟩) z0)).trans (zf o)
            have w3b : Below w.heap.size w w3 := zb.trans (hb3.mono zb.size)
            have w3l : w.heap.size < w3.heap.size := block_lt_of_cell w30
            have w3m : w.heap.size < w3.heap.size + 1 := by omega
            clear z0 z1 zf zb hb3
            go_wp2_with fail
            refine (make_any (t * K1 + K2) K1 (by omega) (by omega) (by omega) (by omega) _).mono ?_
            rintro e w4 ⟨he, hb4⟩
            rw [hmk.out, numV_eq] at he
            subst he
            have w40 : w4.cell? ⟨w.heap.size, 0, none⟩ = some (.int .i64 0) := kept1 (cell_alloc w30 _) hb4
            have w41 : w4.cell? ⟨w.heap.size, 1, none⟩ = some (.int .i64 0) := kept1 (cell_alloc w31 _) hb4
            have w4f : ∀ o, w4.frozen? ⟨w.heap.size, o, none⟩ = false := fz_alloc w3f w3l hb4
            have w4b : Below w.heap.size w w4 := bstep1 w3b hb4
            have w4l : w.heap.size < w4.heap.size := block_lt_of_cell w40
            clear w30 w31 w3f w3b hb4
            go_wp2
            refine bodyPost_ret (v := .tuple #[.agg #[.int .i64 r.n, .int .i64 r.d], .int .i64 r.e]) (by simp [results, Tryd.results45, go_sem, *]) rfl ?_
            exact ⟨rfl, (by repeat (first | with_reducible exact Below.refl _ _ | with_reducible assumption | refine below_drewN ?_ _ | refine Below.drew ?_ | refine Below.alloc ?_ (by first | (simp; done) | (simp; omega) | omega) _ | refine Below.setCell ?_ (by first | (simp; done) | (simp; omega) | omega) _ | refine Below.trans ?_ (Below.mono (by assumption) (by first | (simp; done) | (simp; omega) | omega))))⟩
        · rw [if_neg hbig] at FB2
          unfold numV at FB2
          go_wp2_with fail
          refine FB2.out.mono ?_
          rintro e w3 ⟨rfl, hb3⟩
          have w30 : w3.cell? ⟨w.heap.size, 0, none⟩ = some (.int .i64 0) := kept1 z0 hb3
          have w31 : w3.cell? ⟨w.heap.size, 1, none⟩ = some (.int .i64 0) := kept1 z1 hb3
          have w3f : ∀ o, w3.frozen? ⟨w.heap.size, o, none⟩ = false := fun o => (hb3.frozen (p := ⟨w.heap.size, o, none⟩) (by exact block_lt_of_cell (a := ⟨w.heap.size, 0, none⟩) z0)).trans (zf o)
          have w3b : Below w.heap.size w w3 := zb.trans (hb3.mono zb.size)
          have w3l : w.heap.size < w3.heap.size := block_lt_of_cell w30
          have w3m : w.heap.size < w3.heap.size + 1 := by omega
          clear z0 z1 zf zb hb3
          go_wp2
          refine bodyPost_ret (v := .tuple #[.agg #[.int .i64 0, .int .i64 0], .int .i64 3]) (by simp [results, Tryd.results45, go_sem, *]) rfl ?_
          refine ⟨?_, (by repeat (first | with_reducible exact Below.refl _ _ | with_reducible assumption | refine below_drewN ?_ _ | refine Below.drew ?_ | refine Below.alloc ?_ (by first | (simp; done) | (simp; omega) | omega) _ | refine Below.setCell ?_ (by first | (simp; done) | (simp; omega) | omega) _ | refine Below.trans ?_ (Below.mono (by assumption) (by first | (simp; done) | (simp; omega) | omega))))⟩
          rw [← hr.out, Rt.fold_big hl50.out hts.out (by rw [hK1.out]; omega)]
          rfl

theorem xfold_any (l : List Int) (a : Option Addr) (cap : Nat) (hl : l.length ≤ 60) (hcap : l.length ≤ cap) (hcm : cap ≤ maxLen) (w : World) (hc : ∀ k, k < l.length → ∃ x, a = some x ∧ w.cell? (x.add k) = some (.int .i64 (l.getD k 0))) :
    Calls Tryd.prog 45 #[.slice a l.length cap] w fun e w' => e = .returned (numV (Rt.foldS l)) ∧ Below w.heap.size w w' := by
  by_cases h : 50 < l.length
  · rw [Rt.fold_long h]; exact xfold_long a _ cap h w
  · cases l with
    | nil => rw [Rt.fold_none]; exact xfold_none a cap w
    | cons t ts =>
      obtain ⟨x, rfl, _⟩ := hc 0 (by simp)
      refine xfold_cons t ts x _ cap (Lib.hid rfl) (by simp) (by simp at h ⊢; omega) hcap hcm w (Lib.hid fun k hk => ?_) _ (Lib.hid rfl)
      obtain ⟨y, hy, h2⟩ := hc k hk
      cases hy
      exact h2
end Go.Proofs.YtffabmojbelaaaaDoor
