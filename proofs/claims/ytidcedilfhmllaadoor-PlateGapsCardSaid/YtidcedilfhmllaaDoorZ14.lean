/- What the claims of layer 3 share, part 14: several texts one behind the other. -/
import Derived.Test.YtidcedilfhmllaaDoorZ12
import Derived.Test.YtidcedilfhmllaaDoorZ03
import Derived.StillTailTactics
set_option linter.unusedSimpArgs false
set_option linter.unusedVariables false
/- Contracts of package plate: evenClasses. -/
namespace Pl
theorem evs_succ (l : Nat → Nat) (w : Nat → Int) (k : Nat) : evs (k + 1) l w = if l k = k ∧ w k ≠ 0 then evs k l w ++ [k] else evs k l w := by
  unfold evs
  rw [List.range_succ, List.filter_append, List.filter_cons]
  by_cases h : l k = k ∧ w k ≠ 0
  · rw [if_pos h]; simp [h]
  · rw [if_neg h, if_neg (by simpa using h)]; simp
end Pl
namespace Go.Proofs.YtidcedilfhmllaaDoor
open Go.RowKit
theorem infoI64 : (Tryd.prog.info? 3).map (fun i => (i.zero, i.size, i.bytes)) = some (some (.int .i64 0), 1, 8) := by kernel_rfl
def nV (n : Nat) : Value := .int .i64 (n : Int)
theorem RowF.below {W W' : World} {b N : Nat} {f : Nat → Int} (h : RowF W b N f) (hb : Below W.heap.size W W') : RowF W' b N f := fun k hk => by
  obtain ⟨h1, h2⟩ := h k hk
  exact ⟨kept1 h1 hb, (hb.frozen (p := ⟨b, k, none⟩) (block_lt_of_cell h1)).trans h2⟩

theorem ownFar {W : World} {base n size : Nat} {e : TypeId} {v : Value} {xs : List Value} (h : W.ownsRow base e size v n xs) {g : Nat} (hg : v.ownBlock = some g) : base ≤ g := by
  rcases h.2 with ⟨hv, _⟩ | ⟨g', cap, cur, hv, hb, _⟩
  · rw [hv] at hg; cases hg
  · rw [hv] at hg
    obtain rfl : g' = g := by cases hg; rfl
    exact hb

set_option maxRecDepth 100000 in
set_option maxHeartbeats 4000000 in
theorem evenClasses_any (lb wb N cl cw : Nat) (lf : Nat → Nat) (wf : Nat → Int) (hN : N ≤ 36) (w : World) (hl : Hid (RowF w lb N fun k => (lf k : Int))) (hw : Hid (RowF w wb N wf)) :
    Calls Tryd.prog 57 #[.slice (some ⟨lb, 0, none⟩) N cl, .slice (some ⟨wb, 0, none⟩) N cw] w fun e w' => ∃ v, e = .returned v ∧ Hid (w'.ownsRow w.heap.size 3 1 v (Pl.evs N lf wf).length ((Pl.evs N lf wf).map nV)) ∧ Below w.heap.size w w' := by
  obtain ⟨i0, hi, hz0, hz1, hz2⟩ := info_parts infoI64
  go_enter Tryd.func57, Tryd.ntmps57
  go_wp2
  go_loopw [5, 10] (fun v iv wr => ∃ k : Nat, k ≤ N ∧ iv = .int .i64 (k : Int) ∧ Hid (wr.ownsRow w.heap.size 3 1 v (Pl.evs k lf wf).length ((Pl.evs k lf wf).map nV)) ∧ Below w.heap.size w wr) (fun _ iv _ => N - (RowKit.intOf iv).toNat)
  case atStart => exact ⟨0, Nat.zero_le _, rfl, Lib.hid (World.ownsRow_nil _ _ _ _), Below.refl _ _⟩
  case round =>
    obtain ⟨k, hk, rfl, ho, hb⟩ := hrel
    by_cases hlt : k < N
    · have i1 : (k : Int) < (N : Int) := by omega
      have i2 : (0 : Int) ≤ (k : Int) := by omega
      have cl1 := ((hl.out.below hb) k hlt).1
      have cw1 := ((hw.out.below hb) k hlt).1
      have hst := Pl.evs_succ lf wf k
      have hle : (Pl.evs k lf wf).length ≤ k := by unfold Pl.evs; refine Nat.le_trans (List.length_filter_le _ _) ?_; simp
      obtain ⟨a, ha⟩ : ∃ a, lf k = a := ⟨_, rfl⟩
      obtain ⟨b, hb2⟩ : ∃ b, wf k = b := ⟨_, rfl⟩
      rw [ha] at cl1 hst
      rw [hb2] at cw1 hst
      clear ha hb2
      have hsz := hb.size
      by_cases h1 : a = k
      · have n1 : ((a : Int) == (k : Int)) = true := by rw [h1]; simp
        by_cases h2 : b = 0
        · have n2 : (b != 0) = false := by simp [h2]
          rw [if_neg (fun h => h.2 h2)] at hst
          replace hst := Lib.hid hst
          subst h2
          go_wp2
          go_roundw
          case rel => exact ⟨k + 1, by omega, by go_num, Lib.hid (by rw [hst.out]; exact ho.out), hb⟩
          case measure => first | (simp [RowKit.intOf]; done) | (simp [RowKit.intOf]; omega) | omega
        · have n2 : (b != 0) = true := by simpa using h2
          rw [if_pos ⟨h1, h2⟩] at hst
          replace hst := Lib.hid hst
          have hown := ho.out
          clear ho
          go_wp2_with (first
            | (at_builtin; refine wpList_append_own _ rfl (.tmp 25) (.tmp 27) 22 rfl w.heap.size 3 i0 (.int .i64 0) 1 8 Tryd.underlying22 hi hz0 hz1 hz2 rfl (by decide) _ _ _ rfl (hown.alloc _) ⟨wr.heap.size, 0, none⟩ 1 1 [.int .i64 (k : Int)] rfl rfl ?c1 ?c2 ?c3 ?c4 ?c5 ?_)
            | fail)
          case c1 =>
            intro j u hj
            match j, hj with
            | 0, hj => simp at hj; subst hj; simp [Addr.add]
          case c2 => intro u hu; simp at hu; subst hu; rfl
          case c3 => unfold maxLen; omega
          case c4 => omega
          case c5 => simp; omega
          intro v' w4 hown' hgrow hnn
          have hb4 := (hb.alloc hsz (Obj.cells #[.int .i64 (k : Int)] 3)).grown hgrow (by simp; omega) (fun g hg => ownFar hown hg)
          have hn : Hid (w4.ownsRow w.heap.size 3 1 v' (Pl.evs (k + 1) lf wf).length ((Pl.evs (k + 1) lf wf).map nV)) := Lib.hid (by rw [hst.out, List.length_append, List.map_append]; exact hown')
          clear hown hown' hgrow hnn
          go_wp2
          go_roundw
          case rel => exact ⟨k + 1, by omega, by go_num, hn, hb4⟩
          case measure => first | (simp [RowKit.intOf]; done) | (simp [RowKit.intOf]; omega) | omega
      · have n1 : ((a : Int) == (k : Int)) = false := by rw [beq_eq_false_iff_ne]; omega
        rw [if_neg (fun h => h1 h.1)] at hst
        replace hst := Lib.hid hst
        go_wp2
        go_roundw
        case rel => exact ⟨k + 1, by omega, by go_num, Lib.hid (by rw [hst.out]; exact ho.out), hb⟩
        case measure => first | (simp [RowKit.intOf]; done) | (simp [RowKit.intOf]; omega) | omega
    · obtain rfl : k = N := by omega
      have i1 : ¬ (k : Int) < (k : Int) := by omega
      go_wp2
      go_ret
      exact ⟨_, rfl, ho, hb⟩
end Go.Proofs.YtidcedilfhmllaaDoor
