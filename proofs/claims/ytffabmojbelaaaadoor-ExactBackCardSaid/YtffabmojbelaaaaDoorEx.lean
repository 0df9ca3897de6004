/- The contract of the specification's Expand: a loop that appends. -/
import Derived.Test.YtffabmojbelaaaaDoorM
namespace Go.Proofs.YtffabmojbelaaaaDoor
open Go.RowKit

theorem infoInt : (Tryd.prog.info? 3).map (fun i => (i.zero, i.size, i.bytes)) = some (some (.int .i64 0), 1, 8) := by kernel_rfl

theorem ex_below {w wr w1 : World} {B E : Nat} {T : TypeId} {o : Obj} {u : Value} {n : Nat} {xs : List Value} (hB : B ≤ wr.heap.size) (hE : B ≤ E) (hown : wr.ownsRow E T 1 u n xs) (hnx : Below B w wr)
    (hgrow : (wr.alloc o).grownBy w1 u.ownBlock) : Below B w w1 :=
  (hnx.alloc hB o).grown hgrow (by simp; omega) (fun j hj => by have := (hown.lt j hj).1; omega)

set_option maxRecDepth 100000 in
set_option maxHeartbeats 2000000 in
theorem rexpand (a b : Int) (hv : Rt.vldP a b) (w : World) :
    Calls Tryd.prog 48 #[.agg #[.int .i64 a, .int .i64 b]] w fun e w' => ∃ v, e = .returned v ∧ w'.ownsRow w.heap.size 3 1 v (Rt.cf a b).length ((Rt.cf a b).map (Value.int .i64)) ∧ Below w.heap.size w w' := by
  have hlen := Lib.hid (Rt.cf_len (n := a) (d := b) (by have := hv.1; omega) hv.2.1)
  have ⟨x1, x2, x3, x4, _⟩ := hv
  clear hv
  obtain ⟨i0, hi, hz0, hz1, hz2⟩ := info_parts infoInt
  go_enter Tryd.func48, Tryd.ntmps48
  go_wp2
  go_loopw [3, 4, 5, 6, 7] (fun v x y _ _ wr => ∃ (N D : Int) (pre : List Int), x = .int .i64 N ∧ y = .int .i64 D ∧ 0 ≤ D ∧ D ≤ 2147483647 ∧ -2147483647 ≤ N ∧ N ≤ 2147483647 ∧ Hid (Rt.cf a b = pre ++ Rt.cf N D) ∧ wr.ownsRow (w.heap.size + 1) 3 1 v pre.length (pre.map (Value.int .i64)) ∧ Below w.heap.size w wr ∧ w.heap.size + 1 ≤ wr.heap.size)
    (fun _ _ y _ _ _ => (RowKit.intOf y).toNat)
  case atStart => exact ⟨a, b, [], rfl, rfl, by omega, x2, x3, x4, Lib.hid rfl, World.ownsRow_nil _ _ _ _, (by repeat (first | with_reducible exact Below.refl _ _ | with_reducible assumption | refine below_drewN ?_ _ | refine Below.drew ?_ | refine Below.alloc ?_ (by first | (simp; done) | (simp; omega) | omega) _ | refine Below.setCell ?_ (by first | (simp; done) | (simp; omega) | omega) _ | refine Below.trans ?_ (Below.mono (by assumption) (by first | (simp; done) | (simp; omega) | omega)))), by simp⟩
  case round =>
    obtain ⟨N, D, pre, rfl, rfl, d0, d1, n0, n1, hcf, hown, hbel, hsz⟩ := hrel
    by_cases hD : D = 0
    · subst hD
      go_wp2
      go_ret
      exact ⟨_, rfl, by rw [hcf.out, Rt.cf_zero, List.append_nil]; exact owns_base hown (by omega), hbel⟩
    · have hD2 : (D != 0) = true := by rw [bne_iff_ne]; exact hD
      have hp : 1 ≤ D := by omega
      have fs := Rt.fl_spec (n := N) (d := D) (by omega)
      have hcf2 : Hid (Rt.cf a b = (pre ++ [N / D]) ++ Rt.cf D (N % D)) := Lib.hid (by rw [hcf.out, Rt.cf_pos (show 0 < D by omega), List.append_assoc]; rfl)
      have hl : pre.length < 50 := by
        have h1 := hlen.out
        rw [hcf2.out] at h1
        simp at h1; omega
      have hm : Hid (N - N / D * D = N % D) := Lib.hid (by have := Int.mul_ediv_add_emod N D; rw [Int.mul_comm] at this; omega)
      have mb := Int.emod_lt_of_pos N (show 0 < D by omega)
      have mb0 := Int.emod_nonneg N (show D ≠ 0 by omega)
      rw [Int.mul_comm] at fs
      obtain ⟨fs1, fs2⟩ := fs
      obtain ⟨q, hq⟩ : ∃ q, N / D = q := ⟨_, rfl⟩
      rw [hq] at fs1 fs2 hm hcf2
      replace hq := Lib.hid hq
      clear hcf hD
      go_wp2_with (first
        | (go_at_call 91; refine (down_any N D (by omega) (by omega) hp _).mono ?_; rintro e w2 ⟨he, hw2⟩; rw [hq.out] at he; subst he hw2)
        | (at_builtin; refine wpList_append_own _ rfl (.tmp 17) (.tmp 19) 49 rfl (w.heap.size + 1) 3 i0 (.int .i64 0) 1 8 Tryd.underlying49 hi hz0 hz1 hz2 rfl (by decide) _ _ _ rfl (hown.alloc _) ⟨w2.heap.size, 0, none⟩ 1 1 [.int .i64 q] rfl rfl ?c1 ?c2 ?c3 ?c4 ?c5 ?_)
        | go_in)
      case c1 =>
        intro j u hj
        match j, hj with
        | 0, hj => simp at hj; subst hj; simp [Addr.add]
      case c2 => intro u hu; simp at hu; subst hu; rfl
      case c3 => unfold maxLen; omega
      case c4 => omega
      case c5 => simp; omega
      intro v' w1 hown' hgrow _
      have hbel1 := ex_below (by omega) (by omega) hown hbel hgrow
      have hsz1 : w.heap.size + 1 ≤ w1.heap.size := by have := hgrow.size; simp at this; omega
      clear hgrow hown hbel
      go_wp2
      go_roundw
      case rel => exact ⟨D, N % D, pre ++ [q], rfl, by rw [hm.out], mb0, by omega, by omega, d1, hcf2, by simpa using hown', hbel1, hsz1⟩
      case measure => simp only [RowKit.intOf]; rw [hm.out]; omega
end Go.Proofs.YtffabmojbelaaaaDoor
