/- The laws' within, layer 3: whether a sign is in a list. -/
import Derived.Test.YtidcedilfhmllaaDoorZ13
import Derived.Test.YtidcedilfhmllaaDoorZ20
set_option linter.unusedSimpArgs false
set_option linter.unusedVariables false
namespace Go.Proofs.YtidcedilfhmllaaDoor
open Go.RowKit

set_option maxRecDepth 100000 in
set_option maxHeartbeats 2000000 in
theorem within_any (a : Option Addr) (n cap : Nat) (G : List (Nat × Bool)) (hn : Hid (G.length = n)) (hn2 : n ≤ 1000) (t : Nat) (m : Bool) (R : Bool) (hR : Hid (decide ((t, m) ∈ G) = R)) (w : World) (hl : Hid (SgsAt w a G)) :
    Calls Tryd.prog 35 #[.slice a n cap, .agg #[.int .i64 (t : Int), .bool m]] w fun e w' => e = .returned (.bool R) ∧ Below w.heap.size w w' := by
  go_enter Tryd.func35, Tryd.ntmps35
  go_upto_region 1 with fail
  have b0 : (w.alloc (Obj.cells #[.int .i64 (t : Int), .bool m] 70)).cell? ⟨w.heap.size, 0, none⟩ = some (.int .i64 (t : Int)) := by simp [go_sem]
  have b1 : (w.alloc (Obj.cells #[.int .i64 (t : Int), .bool m] 70)).cell? ⟨w.heap.size, 1, none⟩ = some (.bool m) := by simp [go_sem]
  have hb : Below w.heap.size w (w.alloc (Obj.cells #[.int .i64 (t : Int), .bool m] 70)) := below_alloc (Below.refl _ _) _
  generalize w.alloc (Obj.cells #[.int .i64 (t : Int), .bool m] 70) = X at *
  go_wp2
  go_loopw [5] (fun i wr => ∃ k : Nat, k ≤ n ∧ i = .int .i64 k ∧ Below w.heap.size w wr ∧ wr.cell? ⟨w.heap.size, 0, none⟩ = some (.int .i64 (t : Int)) ∧ wr.cell? ⟨w.heap.size, 1, none⟩ = some (.bool m) ∧ Hid (∀ j, j < k → G.getD j (0, false) ≠ (t, m))) (fun i _ => n - (RowKit.intOf i).toNat)
  case atStart => exact ⟨0, Nat.zero_le _, rfl, hb, b0, b1, Lib.hid (fun j hj => by omega)⟩
  case round =>
    clear hb b0 b1
    obtain ⟨k, hk, rfl, hb, b0, b1, hall⟩ := hrel
    by_cases hlt : k < n
    · obtain ⟨x, rfl, hx0, hx1⟩ := hl.out k (by have := hn.out; omega)
      obtain ⟨u, ub, hu⟩ : ∃ u ub, G.getD k (0, false) = (u, ub) := ⟨_, _, rfl⟩
      rw [hu] at hx0 hx1
      simp only at hx0 hx1
      replace hx0 := kept1 hx0 hb
      replace hx1 := kept1 hx1 hb
      replace hu := Lib.hid hu
      have hi5 : (k : Int) < (n : Int) := by omega
      have hi6 : (0 : Int) ≤ (k : Int) := by omega
      have hne := run_eql_sg (u : Int) (t : Int) ub m
      have hgd := sg_guard
      obtain ⟨sm, hsm⟩ : ∃ sm, decide ((u : Int) = (t : Int) ∧ ub = m) = sm := ⟨_, rfl⟩
      rw [hsm] at hne
      replace hsm := Lib.hid hsm
      have hb' := Lib.hid hb
      clear hb
      go_upto_region 4 with fail
      go_quiet (fail)
      clear hne hgd
      cases sm
      · have hall2 : Hid (∀ j, j < k + 1 → G.getD j (0, false) ≠ (t, m)) := Lib.hid (fun j hj => by
          rcases Nat.lt_or_ge j k with h | h
          · exact hall.out j h
          · obtain rfl : j = k := by omega
            have h9 := of_decide_eq_false hsm.out
            rw [hu.out]
            intro e
            have h8 := Prod.mk.inj e
            exact h9 ⟨by rw [h8.1], h8.2⟩)
        have hbn := fun nq => below_drewN hb'.out nq
        clear hall
        go_wp2
        go_roundw
        case rel => exact ⟨k + 1, by omega, by go_num, hbn _, b0, b1, hall2⟩
        case measure => first | (simp [RowKit.intOf]; done) | (simp [RowKit.intOf]; omega) | omega
      · have hR2 : R = true := by
          have h9 := of_decide_eq_true hsm.out
          rw [← hR.out, decide_eq_true]
          have hk2 : k < G.length := by have := hn.out; omega
          have h8 := hu.out
          rw [List.getD, List.getElem?_eq_getElem hk2] at h8
          have h7 : G[k] = (t, m) := by
            have : G[k] = (u, ub) := h8
            rw [this, h9.2, show u = t by omega]
          rw [← h7]
          exact List.getElem_mem hk2
        subst hR2
        clear hall hR
        go_wp2
        go_ret
        exact ⟨rfl, below_drewN hb'.out _⟩
    · obtain rfl : k = n := by omega
      have hi5 : ¬ (k : Int) < (k : Int) := by omega
      have hR2 : R = false := by
        rw [← hR.out, decide_eq_false]
        intro h
        obtain ⟨j, hj, he⟩ := List.getElem_of_mem h
        have := hall.out j (by have := hn.out; omega)
        rw [List.getD, List.getElem?_eq_getElem hj] at this
        exact this he
      subst hR2
      clear hall hR
      go_wp2
      go_ret
      exact ⟨rfl, hb⟩
end Go.Proofs.YtidcedilfhmllaaDoor
