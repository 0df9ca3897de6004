/- The contract of the iterator 'terms' of package exact: the terms of a continued fraction, in their order. -/
import Derived.Test.YtffabmojbelaaaaDoorH
import Derived.RangeFuncNested
import Derived.RangeFuncBound
import Derived.RangeFuncCalls
import Derived.RangeFuncLeaves
import Derived.RangeFuncGives
import Derived.RangeFuncStops
import Derived.Shelf.Abstract
import Derived.Shelf.RegionOpen
import Derived.OwnWalkIn
import Derived.TacticsInMore
import Derived.LoopNIn
import Derived.LoopIn
namespace Go.Proofs.YtffabmojbelaaaaDoor
open Go.RowKit Go.Shelf
attribute [local go_sem] Oper.semAt_some

theorem grown_drew (W : World) : W.grownBy W.drew none := ⟨rfl, rfl, rfl, Nat.le_refl _, fun _ _ _ => rfl⟩

set_option maxRecDepth 100000 in
set_option maxHeartbeats 2000000 in
theorem terms1_in (n : Nat) (hn : 2 ≤ n) (l B : Nat) (a b : Int) (hv : Rt.vldP a b) (J Jx : List Int → World → Prop)
    (hY : ∀ pre x W, J pre W → pre.length < 50 ∧ pre ++ [x] <+: Rt.cf a b → YieldAt Fence.wide (n - 1) Tryd.prog l #[.int .i64 x] W fun e W' =>
      (e = .returned (.bool true) ∧ J (pre ++ [x]) W' ∧ KeepsWalks W W') ∨ (e = .returned (.bool false) ∧ Jx (pre ++ [x]) W'))
    (W : World) (hJ : AbidesFrom W.heap.size J) (c0 : W.cell? ⟨B, 0, none⟩ = some (.int .i64 a)) (c1 : W.cell? ⟨B, 1, none⟩ = some (.int .i64 b)) (h0 : J [] W) :
    CallsIn Fence.wide n Tryd.prog 114 #[.func (.yield l) #[] #[], .pointer (some ⟨B, 0, none⟩)] W fun e W' => (∃ v, e = .returned v) ∧
      ((∃ xs, xs = Rt.cf a b ∧ J xs W') ∨ (∃ pre, pre <+: Rt.cf a b ∧ Jx pre W')) := by
  have hn1 : 1 ≤ n := by omega
  have hlen := Lib.hid (Rt.cf_len (n := a) (d := b) (by have := hv.1; omega) hv.2.1)
  have ⟨x1, x2, x3, x4, _⟩ := hv
  clear hv
  refine callsIn_of_wp Tryd.func114 rfl trivial ?_ rfl
  simp only [Tryd.ntmps114, List.size_toArray, List.length_cons, List.length_nil, Nat.reduceAdd, Nat.reduceSub, Array.replicate_succ, Array.replicate_zero, List.push_toArray, List.append_toArray, List.nil_append, List.cons_append]
  gi_wp2
  gi_region
  gi_wp2
  gi_loopw [3, 4] (fun x y wr => ∃ (N D : Int) (pre : List Int), x = .int .i64 N ∧ y = .int .i64 D ∧ 0 ≤ D ∧ D ≤ 2147483647 ∧ -2147483647 ≤ N ∧ N ≤ 2147483647 ∧ Hid (Rt.cf a b = pre ++ Rt.cf N D) ∧ J pre wr) (fun _ y _ => (intOf y).toNat)
  case atStart => exact ⟨a, b, [], rfl, rfl, by omega, x2, x3, x4, Lib.hid rfl, hJ _ _ _ none h0 (grown_drew W) (fun _ e => by cases e)⟩
  case round =>
    obtain ⟨N, D, pre, rfl, rfl, d0, d1, n0, n1, hcf, hJs⟩ := hrel
    by_cases hD : D = 0
    · subst hD
      gi_wp2
      go_end0
      exact ⟨⟨_, rfl⟩, .inl ⟨_, rfl, by rw [hcf.out, Rt.cf_zero, List.append_nil]; exact hJs⟩⟩
    · have hD2 : (D != 0) = true := by rw [bne_iff_ne]; exact hD
      have hp : 1 ≤ D := by omega
      have fs := Rt.fl_spec (n := N) (d := D) (by omega)
      have hcf2 : Hid (Rt.cf a b = (pre ++ [N / D]) ++ Rt.cf D (N % D)) := Lib.hid (by rw [hcf.out, Rt.cf_pos (show 0 < D by omega), List.append_assoc]; rfl)
      have hl : pre.length < 50 := by
        have h1 := hlen.out
        rw [hcf2.out] at h1
        simp at h1; omega
      have hm : Hid (N - N / D * D = N % D) := Lib.hid (by have := Int.mul_ediv_add_emod N D; rw [Int.mul_comm] at this; omega)
      have mb := Int.emod_lt_of_pos N (show 0 < D by omega)
      have mb0 := Int.emod_nonneg N (show D ≠ 0 by omega)
      rw [Int.mul_comm] at fs
      obtain ⟨fs1, fs2⟩ := fs
      obtain ⟨q, hq⟩ : ∃ q, N / D = q := ⟨_, rfl⟩
      obtain ⟨fn, tmps, assign, body, hy, hR⟩ := hY pre (N / D) wr hJs ⟨hl, ⟨_, hcf2.out.symm⟩⟩
      rw [hq] at fs1 fs2 hm hcf2 hy hR
      replace hq := Lib.hid hq
      clear hcf hD
      gi_wp2_with (refine ⟨trivial, ?_⟩; gi_at_call 89; refine (callsIn_wide.2 (flo_any N D (by omega) (by omega) hp _)).mono ?_; rintro e w2 ⟨he, hw2⟩; rw [hq.out] at he; subst he hw2)
      refine hR.mono ?_
      rintro e W3 (⟨rfl, hJ3, hk3⟩ | ⟨rfl, hJx3⟩)
      · gi_wp2
        go_roundw
        case rel => exact ⟨D, N % D, pre ++ [q], rfl, by rw [hm.out], mb0, by omega, by omega, d1, hcf2, hJ3⟩
        case measure => simp only [intOf]; rw [hm.out]; omega
      · gi_wp2
        refine bodyPost_ret (results_none rfl _ _ _) rfl ?_
        exact ⟨⟨_, rfl⟩, .inr ⟨_, ⟨Rt.cf D (N % D), hcf2.out.symm⟩, hJx3⟩⟩

theorem terms_stops (n : Nat) (hn : 2 ≤ n) (B : Nat) (a b : Int) (hv : Rt.vldP a b) (w : World) (hB : B < w.heap.size) (c0 : w.cell? ⟨B, 0, none⟩ = some (.int .i64 a)) (c1 : w.cell? ⟨B, 1, none⟩ = some (.int .i64 b)) :
    SeqStops Fence.wide n Tryd.prog 114 #[.pointer (some ⟨B, 0, none⟩)] (fun x : Int => .int .i64 x) (fun xs => xs = Rt.cf a b) (fun pre => pre <+: Rt.cf a b) 50 w := fun l J Jx W hW hJ _ hY h0 =>
  terms1_in n hn l B a b hv J Jx (fun pre x W1 hj hl => hY pre x W1 hj hl.1) W hJ ((hW.cell (p := ⟨B, 0, none⟩) hB).trans c0) ((hW.cell (p := ⟨B, 1, none⟩) hB).trans c1) h0

set_option maxHeartbeats 400000 in
theorem terms_any (a b : Int) (w : World) :
    Calls Tryd.prog 94 #[.agg #[.int .i64 a, .int .i64 b]] w fun e w' => e = .returned (.func (.func 114) #[] #[.pointer (some ⟨w.heap.size, 0, none⟩)]) ∧ w' = w.alloc (.cells #[.int .i64 a, .int .i64 b] 23) := by
  have hmf : ∀ (fn : Fn) (first cap : Array Value) (w : World), (Instr.makeFunc fn first cap).run Tryd.prog w = .ok (.func fn first cap) w := fun _ _ _ _ => rfl
  go_enter Tryd.func94, Tryd.ntmps94
  go_wp2
  go_ret
  exact ⟨rfl, rfl⟩
end Go.Proofs.YtffabmojbelaaaaDoor
