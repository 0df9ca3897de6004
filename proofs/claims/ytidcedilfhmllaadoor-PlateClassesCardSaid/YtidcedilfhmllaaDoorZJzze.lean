/- Contracts of the specification of layer 3: Step. -/
import Derived.Test.YtidcedilfhmllaaDoorZ12
import Derived.Test.YtidcedilfhmllaaDoorZJv
set_option linter.unusedSimpArgs false
set_option linter.unusedVariables false
namespace Pl
/-- Step: the state behind a step, and whether the step begins there -/
def stp (L : List Wk) (y : St) (k : Int) : St × Bool := (⟨(dirW L k).b, cmp y.t (dirW L k).t.toNat, !y.m⟩, (dirW L k).a == y.p)
theorem adv_stp (L : List Wk) (y : St) (k : Int) : adv L y k = if (stp L y k).2 then some (stp L y k).1 else none := by
  rw [adv_dir]
  unfold stp
  by_cases h : (dirW L k).a = y.p
  · rw [if_pos h, if_pos (by simpa using h)]
  · rw [if_neg h, if_neg (by simpa using h)]
end Pl
namespace Go.Proofs.YtidcedilfhmllaaDoor
open Go.RowKit

theorem spRow {X : World} : (X.alloc (Obj.cells #[.int .i64 0, .int .i64 0, .bool false] 100)).rowIs X.heap.size 100 3 (fun i => if i = 0 then .int .i64 0 else if i = 1 then .int .i64 0 else .bool false) :=
  World.rowIs_alloc X _ _ _ (fun i hi => by
    match i, hi with
    | 0, _ => rfl
    | 1, _ => rfl
    | 2, _ => rfl)

set_option maxRecDepth 100000 in
set_option maxHeartbeats 4000000 in
theorem rStep_pos (s m : Int) (x : Addr) (q cap : Nat) (p : Int) (t : Nat) (mn : Bool) (ht : t < 8) (k : Int) (j : Nat) (hkj : k = (j : Int)) (hjq : j < q) (hq2 : q ≤ 16) (f g : Int) (un : Nat) (hun : un < 8) (bb : Bool) (hbb : Hid ((f == p) = bb)) (ct : Nat) (hct : Hid (Pl.cmp t un = ct)) (w : World) (hl3 : WkAt w (x.add (j * 3)) ⟨f, g, (un : Int)⟩) :
    Calls Tryd.prog 82 #[.agg #[.int .i64 s, .int .i64 m, .slice (some x) q cap], .agg #[.int .i64 p, .int .i64 (t : Int), .bool mn], .int .i64 k] w fun e w' => e = .returned (.tuple #[.agg #[.int .i64 g, .int .i64 (ct : Int), .bool (!mn)], .bool bb]) ∧ Below w.heap.size w w' := by
  have j1 : (0 : Int) ≤ (j : Int) := by omega
  have j2 : (j : Int) < (q : Int) := by omega
  subst hkj
  have HA := fun (W : World) => rAfter_any t un ht hun W
  rw [Pl.aft_eq ht hun, hct.out] at HA
  replace HA := Lib.hid HA
  clear hct
  have ⟨c0, c1, c2⟩ := hl3
  simp only at c0 c1 c2
  clear hl3
  have b2 : (((w.alloc (Obj.cells #[.int .i64 s, .int .i64 m, .slice (some x) q cap] 34)).alloc (Obj.cells #[.int .i64 p, .int .i64 (t : Int), .bool mn] 100)).alloc (Obj.cells #[.int .i64 0, .int .i64 0, .bool false] 100)).cell? ⟨w.heap.size, 2, none⟩ = some (.slice (some x) q cap) := by simp [go_sem]
  have d0 : (((w.alloc (Obj.cells #[.int .i64 s, .int .i64 m, .slice (some x) q cap] 34)).alloc (Obj.cells #[.int .i64 p, .int .i64 (t : Int), .bool mn] 100)).alloc (Obj.cells #[.int .i64 0, .int .i64 0, .bool false] 100)).cell? ⟨w.heap.size + 1, 0, none⟩ = some (.int .i64 p) := by simp [go_sem]
  have d1 : (((w.alloc (Obj.cells #[.int .i64 s, .int .i64 m, .slice (some x) q cap] 34)).alloc (Obj.cells #[.int .i64 p, .int .i64 (t : Int), .bool mn] 100)).alloc (Obj.cells #[.int .i64 0, .int .i64 0, .bool false] 100)).cell? ⟨w.heap.size + 1, 1, none⟩ = some (.int .i64 (t : Int)) := by simp [go_sem]
  have d2 : (((w.alloc (Obj.cells #[.int .i64 s, .int .i64 m, .slice (some x) q cap] 34)).alloc (Obj.cells #[.int .i64 p, .int .i64 (t : Int), .bool mn] 100)).alloc (Obj.cells #[.int .i64 0, .int .i64 0, .bool false] 100)).cell? ⟨w.heap.size + 1, 2, none⟩ = some (.bool mn) := by simp [go_sem]
  have rX : (((w.alloc (Obj.cells #[.int .i64 s, .int .i64 m, .slice (some x) q cap] 34)).alloc (Obj.cells #[.int .i64 p, .int .i64 (t : Int), .bool mn] 100)).alloc (Obj.cells #[.int .i64 0, .int .i64 0, .bool false] 100)).rowIs (w.heap.size + 1 + 1) 100 3 (fun i => if i = 0 then .int .i64 0 else if i = 1 then .int .i64 0 else .bool false) := by
    have h := spRow (X := (w.alloc (Obj.cells #[.int .i64 s, .int .i64 m, .slice (some x) q cap] 34)).alloc (Obj.cells #[.int .i64 p, .int .i64 (t : Int), .bool mn] 100))
    simpa using h
  have hv : Below w.heap.size w (((w.alloc (Obj.cells #[.int .i64 s, .int .i64 m, .slice (some x) q cap] 34)).alloc (Obj.cells #[.int .i64 p, .int .i64 (t : Int), .bool mn] 100)).alloc (Obj.cells #[.int .i64 0, .int .i64 0, .bool false] 100)) := below_alloc (below_alloc (below_alloc (Below.refl _ _) _) _) _
  have hX : Hid ((((w.alloc (Obj.cells #[.int .i64 s, .int .i64 m, .slice (some x) q cap] 34)).alloc (Obj.cells #[.int .i64 p, .int .i64 (t : Int), .bool mn] 100)).alloc (Obj.cells #[.int .i64 0, .int .i64 0, .bool false] 100)).heap.size = w.heap.size + 3) := Lib.hid (by simp)
  replace c0 := kept1 c0 hv
  replace c1 := kept1 c1 hv
  replace c2 := kept1 c2 hv
  go_enter Tryd.func82, Tryd.ntmps82
  go_upto_region 1 with fail
  generalize ((w.alloc (Obj.cells #[.int .i64 s, .int .i64 m, .slice (some x) q cap] 34)).alloc (Obj.cells #[.int .i64 p, .int .i64 (t : Int), .bool mn] 100)).alloc (Obj.cells #[.int .i64 0, .int .i64 0, .bool false] 100) = X at *
  go_upto_region 3 with fail
  have hXY : Below X.heap.size X (X.alloc (Obj.cells #[.int .i64 f, .int .i64 g, .int .i64 (un : Int)] 61)) := below_alloc (Below.refl _ _) _
  have g0 : (X.alloc (Obj.cells #[.int .i64 f, .int .i64 g, .int .i64 (un : Int)] 61)).cell? ⟨X.heap.size, 0, none⟩ = some (.int .i64 f) := by simp [go_sem]
  have g1 : (X.alloc (Obj.cells #[.int .i64 f, .int .i64 g, .int .i64 (un : Int)] 61)).cell? ⟨X.heap.size, 1, none⟩ = some (.int .i64 g) := by simp [go_sem]
  have g2 : (X.alloc (Obj.cells #[.int .i64 f, .int .i64 g, .int .i64 (un : Int)] 61)).cell? ⟨X.heap.size, 2, none⟩ = some (.int .i64 (un : Int)) := by simp [go_sem]
  have e0 := kept1 d0 hXY
  have e1 := kept1 d1 hXY
  have e2 := kept1 d2 hXY
  have rQ := Below.row' hXY rX
  have bY := Lib.hid (hv.trans (hXY.mono hv.size))
  clear b2 d0 d1 d2 rX hv c0 c1 c2 hXY
  generalize X.alloc (Obj.cells #[.int .i64 f, .int .i64 g, .int .i64 (un : Int)] 61) = Z at *
  have n1 : X.heap.size ≠ w.heap.size + 1 + 1 := by rw [hX.out]; omega
  have n2 : w.heap.size + 1 ≠ w.heap.size + 1 + 1 := by omega
  clear hX
  generalize X.heap.size = lb at *
  clear X
  have S0 : Z.drew.cell? ⟨lb, 0, none⟩ = some (.int .i64 f) ∧ Z.drew.cell? ⟨lb, 1, none⟩ = some (.int .i64 g) ∧ Z.drew.cell? ⟨lb, 2, none⟩ = some (.int .i64 (un : Int)) ∧ Z.drew.cell? ⟨w.heap.size + 1, 0, none⟩ = some (.int .i64 p) ∧ Z.drew.cell? ⟨w.heap.size + 1, 1, none⟩ = some (.int .i64 (t : Int)) ∧ Z.drew.cell? ⟨w.heap.size + 1, 2, none⟩ = some (.bool mn) := ⟨g0, g1, g2, e0, e1, e2⟩
  have t0 : Z.drew.cell? ⟨w.heap.size + 1 + 1, 0, none⟩ = some (.int .i64 0) := rQ.cell (i := 0) (by omega)
  have t1 : Z.drew.cell? ⟨w.heap.size + 1 + 1, 1, none⟩ = some (.int .i64 0) := rQ.cell (i := 1) (by omega)
  have t2 : Z.drew.cell? ⟨w.heap.size + 1 + 1, 2, none⟩ = some (.bool false) := rQ.cell (i := 2) (by omega)
  have tz0 : Z.drew.frozen? ⟨w.heap.size + 1 + 1, 0, none⟩ = false := rQ.frozen 0
  have tz1 : Z.drew.frozen? ⟨w.heap.size + 1 + 1, 1, none⟩ = false := rQ.frozen 1
  have tz2 : Z.drew.frozen? ⟨w.heap.size + 1 + 1, 2, none⟩ = false := rQ.frozen 2
  replace rQ := rQ.drew
  replace bY := Lib.hid bY.out.drew
  clear g0 g1 g2 e0 e1 e2
  refine wp_region_held_drew (S := fun w' => w'.cell? ⟨lb, 0, none⟩ = some (.int .i64 f) ∧ w'.cell? ⟨lb, 1, none⟩ = some (.int .i64 g) ∧ w'.cell? ⟨lb, 2, none⟩ = some (.int .i64 (un : Int)) ∧ w'.cell? ⟨w.heap.size + 1, 0, none⟩ = some (.int .i64 p) ∧ w'.cell? ⟨w.heap.size + 1, 1, none⟩ = some (.int .i64 (t : Int)) ∧ w'.cell? ⟨w.heap.size + 1, 2, none⟩ = some (.bool mn)) (by kernel_rfl) S0 (fun hHeld => ?_)
  clear S0
  generalize Z.drew = Z at *
  skip
  refine wpAnyH_take (i := 0) (v := ?_) rfl (by kernel_rfl) (by kernel_rfl) (by kernel_rfl) (fun _ _ _ h => h) (Or.inl ⟨by rfl, ?_⟩) (by assumption) ?_
  rotate_left 1
  · (intro w hSw; (try dsimp only at hSw); go_simp; all_goals with_reducible rfl)
  try simp only [Act.put, List.setIfInBounds_toArray, List.set_cons_zero, List.set_cons_succ]
  refine wpAnyH_take (i := 1) (v := ?_) rfl (by kernel_rfl) (by kernel_rfl) (by kernel_rfl) (fun _ _ _ h => h) (Or.inl ⟨by rfl, ?_⟩) (by assumption) ?_
  rotate_left 1
  · (intro w hSw; (try dsimp only at hSw); go_simp; all_goals with_reducible rfl)
  try simp only [Act.put, List.setIfInBounds_toArray, List.set_cons_zero, List.set_cons_succ]
  refine wpAnyH_take (i := 2) (v := ?_) rfl (by kernel_rfl) (by kernel_rfl) (by kernel_rfl) (fun _ _ _ h => h) (Or.inl ⟨by rfl, ?_⟩) (by assumption) ?_
  rotate_left 1
  · (intro w hSw; (try dsimp only at hSw); go_simp; all_goals with_reducible rfl)
  try simp only [Act.put, List.setIfInBounds_toArray, List.set_cons_zero, List.set_cons_succ]
  refine wpAnyH_take (i := 3) (v := ?_) rfl (by kernel_rfl) (by kernel_rfl) (by kernel_rfl) (fun _ _ _ h => h) (Or.inl ⟨by rfl, ?_⟩) (by assumption) ?_
  rotate_left 1
  · (intro w hSw; (try dsimp only at hSw); go_simp; all_goals with_reducible rfl)
  try simp only [Act.put, List.setIfInBounds_toArray, List.set_cons_zero, List.set_cons_succ]
  refine wpAnyH_take (i := 4) (v := ?_) rfl (by kernel_rfl) (by kernel_rfl) (by kernel_rfl) (fun _ _ _ h => h) (Or.inl ⟨by rfl, ?_⟩) (by assumption) ?_
  rotate_left 1
  · (intro w hSw; (try dsimp only at hSw); go_simp; all_goals with_reducible rfl)
  try simp only [Act.put, List.setIfInBounds_toArray, List.set_cons_zero, List.set_cons_succ]
  refine wpAnyH_take (i := 5) (v := ?_) rfl (by kernel_rfl) (by kernel_rfl) (by kernel_rfl) (fun _ _ _ h => h) (Or.inl ⟨by rfl, ?_⟩) (by assumption) ?_
  rotate_left 1
  · (intro w hSw; (try dsimp only at hSw); go_simp; all_goals with_reducible rfl)
  try simp only [Act.put, List.setIfInBounds_toArray, List.set_cons_zero, List.set_cons_succ]
  refine wpAnyH_take (i := 6) (v := ?_) rfl (by kernel_rfl) (by kernel_rfl) (by kernel_rfl) (fun _ _ _ h => h) (Or.inl ⟨by rfl, ?_⟩) (by assumption) ?_
  rotate_left 1
  · (intro w hSw; (try dsimp only at hSw); go_simp; all_goals with_reducible rfl)
  try simp only [Act.put, List.setIfInBounds_toArray, List.set_cons_zero, List.set_cons_succ]
  refine wpAnyH_take (i := 8) (v := ?_) rfl (by kernel_rfl) (by kernel_rfl) (by kernel_rfl) (fun _ _ _ h => h) (Or.inl ⟨by rfl, ?_⟩) (by assumption) ?_
  rotate_left 1
  · (intro w hSw; (try dsimp only at hSw); go_simp; all_goals with_reducible rfl)
  try simp only [Act.put, List.setIfInBounds_toArray, List.set_cons_zero, List.set_cons_succ]
  refine wpAnyH_take (i := 9) (v := ?_) rfl (by kernel_rfl) (by kernel_rfl) (by kernel_rfl) (fun _ _ _ h => h) (Or.inl ⟨by rfl, ?_⟩) (by assumption) ?_
  rotate_left 1
  · (intro w hSw; (try dsimp only at hSw); go_simp; all_goals with_reducible rfl)
  try simp only [Act.put, List.setIfInBounds_toArray, List.set_cons_zero, List.set_cons_succ]
  refine wpAnyH_take (i := 10) (v := ?_) rfl (by kernel_rfl) (by kernel_rfl) (by kernel_rfl) (fun _ _ _ h => h) (Or.inl ⟨by rfl, ?_⟩) (by assumption) ?_
  rotate_left 1
  · (intro w hSw; (try dsimp only at hSw); go_simp; all_goals with_reducible rfl)
  try simp only [Act.put, List.setIfInBounds_toArray, List.set_cons_zero, List.set_cons_succ]
  refine wpAnyH_take (i := 11) (v := ?_) rfl (by kernel_rfl) (by kernel_rfl) (by kernel_rfl) (fun _ _ _ h => h) (Or.inl ⟨by rfl, ?_⟩) (by assumption) ?_
  rotate_left 1
  · (intro w hSw; (try dsimp only at hSw); go_simp; all_goals with_reducible rfl)
  try simp only [Act.put, List.setIfInBounds_toArray, List.set_cons_zero, List.set_cons_succ]
  refine wpAnyH_take (i := 14) (v := ?_) rfl (by kernel_rfl) (by kernel_rfl) (by kernel_rfl) (fun _ _ _ h => h) (Or.inl ⟨by rfl, ?_⟩) (by assumption) ?_
  rotate_left 1
  · (intro w hSw; (try dsimp only at hSw); go_simp; all_goals with_reducible rfl)
  try simp only [Act.put, List.setIfInBounds_toArray, List.set_cons_zero, List.set_cons_succ]
  refine wpAnyH_take (i := 15) (v := ?_) rfl (by kernel_rfl) (by kernel_rfl) (by kernel_rfl) (fun _ _ _ h => h) (Or.inl ⟨by rfl, ?_⟩) (by assumption) ?_
  rotate_left 1
  · (intro w hSw; (try dsimp only at hSw); go_simp; all_goals with_reducible rfl)
  try simp only [Act.put, List.setIfInBounds_toArray, List.set_cons_zero, List.set_cons_succ]
  refine wpAnyH_take (i := 16) (v := ?_) rfl (by kernel_rfl) (by kernel_rfl) (by kernel_rfl) (fun _ _ _ h => h) (Or.inl ⟨by rfl, ?_⟩) (by assumption) ?_
  rotate_left 1
  · (intro w hSw; (try dsimp only at hSw); go_simp; all_goals with_reducible rfl)
  try simp only [Act.put, List.setIfInBounds_toArray, List.set_cons_zero, List.set_cons_succ]
  refine wpAnyH_take (i := 17) (v := ?_) rfl (by kernel_rfl) (by kernel_rfl) (by kernel_rfl) (fun _ _ _ h => h) (Or.inl ⟨by rfl, ?_⟩) (by assumption) ?_
  rotate_left 1
  · (intro w hSw; (try dsimp only at hSw); go_simp; all_goals with_reducible rfl)
  try simp only [Act.put, List.setIfInBounds_toArray, List.set_cons_zero, List.set_cons_succ]
  refine wpAnyH_take (i := 18) (v := ?_) rfl (by kernel_rfl) (by kernel_rfl) (by kernel_rfl) (fun _ _ _ h => h) (Or.inl ⟨by rfl, ?_⟩) (by assumption) ?_
  rotate_left 1
  · (intro w hSw; (try dsimp only at hSw); go_simp; all_goals with_reducible rfl)
  try simp only [Act.put, List.setIfInBounds_toArray, List.set_cons_zero, List.set_cons_succ]
  refine wpAnyH_ready (rs := [7]) (by kernel_rfl) (by simp) ?_
  refine AllReadyH.cons rfl (fun K hK => ?_) ?_
  rotate_left 1
  · exact AllReadyH.nil
  go_simp
  with_reducible refine (HA.out _).mono ?_
  rintro e wp ⟨he, hbp⟩
  subst he
  subst hbp
  refine hK.out _ _ hHeld (fun hHeld2 => ?_)
  clear hK K hHeld
  have hHeld := hHeld2
  clear hHeld2
  try simp only [Act.put, List.setIfInBounds_toArray, List.set_cons_zero, List.set_cons_succ]
  refine wpAnyH_take (i := 12) (v := ?_) rfl (by kernel_rfl) (by kernel_rfl) (by kernel_rfl) (fun _ _ _ h => h) (Or.inl ⟨by rfl, ?_⟩) (by assumption) ?_
  rotate_left 1
  · (intro w hSw; (try dsimp only at hSw); go_simp; all_goals with_reducible rfl)
  try simp only [Act.put, List.setIfInBounds_toArray, List.set_cons_zero, List.set_cons_succ]
  refine wpAnyH_take (i := 13) (v := ?_) rfl (by kernel_rfl) (by kernel_rfl) (by kernel_rfl) (fun _ _ _ h => h) (Or.inl ⟨by rfl, ?_⟩) (by assumption) ?_
  rotate_left 1
  · (intro w hSw; (try dsimp only at hSw); go_simp; all_goals with_reducible rfl)
  try simp only [Act.put, List.setIfInBounds_toArray, List.set_cons_zero, List.set_cons_succ]
  refine wpAnyH_ready (rs := [19]) (by kernel_rfl) (by simp) ?_
  refine AllReadyH.cons rfl (fun K hK => ?_) ?_
  rotate_left 1
  · exact AllReadyH.nil
  go_simp
  refine hK.out _ _ ?_ (fun hHeld2 => ?_)
  · obtain ⟨y0, y1, y2, y3, y4, y5⟩ := hHeld
    clear hK K
    refine ⟨?_, ?_, ?_, ?_, ?_, ?_⟩ <;> simp [go_sem, n1, n2, Ne.symm n1, Ne.symm n2, *]
  clear hK K hHeld
  have hHeld := hHeld2
  clear hHeld2
  try simp only [Act.put, List.setIfInBounds_toArray, List.set_cons_zero, List.set_cons_succ]
  refine wpAnyH_take (i := 20) (v := ?_) rfl (by kernel_rfl) (by kernel_rfl) (by kernel_rfl) (fun _ _ _ h => h) (Or.inl ⟨by rfl, ?_⟩) (by assumption) ?_
  rotate_left 1
  · (intro w hSw; (try dsimp only at hSw); go_simp; all_goals with_reducible rfl)
  try simp only [Act.put, List.setIfInBounds_toArray, List.set_cons_zero, List.set_cons_succ]
  clear hHeld
  refine wpAnyH_done (by kernel_rfl) ?_ _
  try simp only [List.getElem_toArray, List.getElem_cons_succ, List.getElem_cons_zero]
  have hq0 : (((wp.setCell ⟨w.heap.size + 1 + 1, 0, none⟩ (.int .i64 g)).setCell ⟨w.heap.size + 1 + 1, 1, none⟩ (.int .i64 (ct : Int))).setCell ⟨w.heap.size + 1 + 1, 2, none⟩ (.bool (!mn))).cell? ⟨w.heap.size + 1 + 1, 0, none⟩ = some (.int .i64 g) := (((rQ.set 0 (.int .i64 g)).set 1 (.int .i64 (ct : Int))).set 2 (.bool (!mn))).cell (i := 0) (by omega)
  have hq1 : (((wp.setCell ⟨w.heap.size + 1 + 1, 0, none⟩ (.int .i64 g)).setCell ⟨w.heap.size + 1 + 1, 1, none⟩ (.int .i64 (ct : Int))).setCell ⟨w.heap.size + 1 + 1, 2, none⟩ (.bool (!mn))).cell? ⟨w.heap.size + 1 + 1, 1, none⟩ = some (.int .i64 (ct : Int)) := (((rQ.set 0 (.int .i64 g)).set 1 (.int .i64 (ct : Int))).set 2 (.bool (!mn))).cell (i := 1) (by omega)
  have hq2 : (((wp.setCell ⟨w.heap.size + 1 + 1, 0, none⟩ (.int .i64 g)).setCell ⟨w.heap.size + 1 + 1, 1, none⟩ (.int .i64 (ct : Int))).setCell ⟨w.heap.size + 1 + 1, 2, none⟩ (.bool (!mn))).cell? ⟨w.heap.size + 1 + 1, 2, none⟩ = some (.bool (!mn)) := (((rQ.set 0 (.int .i64 g)).set 1 (.int .i64 (ct : Int))).set 2 (.bool (!mn))).cell (i := 2) (by omega)
  have hZ : Below w.heap.size w (((wp.setCell ⟨w.heap.size + 1 + 1, 0, none⟩ (.int .i64 g)).setCell ⟨w.heap.size + 1 + 1, 1, none⟩ (.int .i64 (ct : Int))).setCell ⟨w.heap.size + 1 + 1, 2, none⟩ (.bool (!mn))) := ((bY.out.setCell (p := ⟨w.heap.size + 1 + 1, 0, none⟩) (by show w.heap.size ≤ w.heap.size + 1 + 1; omega) _).setCell (p := ⟨w.heap.size + 1 + 1, 1, none⟩) (by show w.heap.size ≤ w.heap.size + 1 + 1; omega) _).setCell (p := ⟨w.heap.size + 1 + 1, 2, none⟩) (by show w.heap.size ≤ w.heap.size + 1 + 1; omega) _
  clear t0 t1 t2 tz0 tz1 tz2
  generalize ((wp.setCell ⟨w.heap.size + 1 + 1, 0, none⟩ (.int .i64 g)).setCell ⟨w.heap.size + 1 + 1, 1, none⟩ (.int .i64 (ct : Int))).setCell ⟨w.heap.size + 1 + 1, 2, none⟩ (.bool (!mn)) = V at *
  go_wp2
  have hbo := hbb.out
  rw [hbo]
  refine bodyPost_ret (v := .tuple #[.agg #[.int .i64 g, .int .i64 (ct : Int), .bool (!mn)], .bool bb]) (by simp [results, Tryd.results82, go_sem, hq0, hq1, hq2]) rfl ?_
  exact ⟨rfl, hZ⟩

set_option maxRecDepth 100000 in
set_option maxHeartbeats 4000000 in
theorem rStep_neg (s m : Int) (x : Addr) (q cap : Nat) (p : Int) (t : Nat) (mn : Bool) (ht : t < 8) (k : Int) (j : Nat) (hkj : k = -1 - (j : Int)) (hjq : j < q) (hq2 : q ≤ 16) (f g : Int) (un : Nat) (hun : un < 8) (bb : Bool) (hbb : Hid ((g == p) = bb)) (ct : Nat) (hct : Hid (Pl.cmp t (Pl.inv un) = ct)) (w : World) (hl3 : WkAt w (x.add (j * 3)) ⟨f, g, (un : Int)⟩) :
    Calls Tryd.prog 82 #[.agg #[.int .i64 s, .int .i64 m, .slice (some x) q cap], .agg #[.int .i64 p, .int .i64 (t : Int), .bool mn], .int .i64 k] w fun e w' => e = .returned (.tuple #[.agg #[.int .i64 f, .int .i64 (ct : Int), .bool (!mn)], .bool bb]) ∧ Below w.heap.size w w' := by
  have j1 : (0 : Int) ≤ (j : Int) := by omega
  have j2 : (j : Int) < (q : Int) := by omega
  have k0 : ¬ (0 : Int) ≤ k := by omega
  have k1 : -1 - k = (j : Int) := by omega
  have k2 : k < 0 := by omega
  clear hkj
  have HB := fun (W : World) => rBack_any un hun W
  rw [Pl.bck_eq hun] at HB
  have HA := fun (W : World) => rAfter_any t (Pl.inv un) ht (Pl.inv_lt hun) W
  rw [Pl.aft_eq ht (Pl.inv_lt hun), hct.out] at HA
  generalize Pl.inv un = iu at *
  replace HB := Lib.hid HB
  replace HA := Lib.hid HA
  clear hct
  have ⟨c0, c1, c2⟩ := hl3
  simp only at c0 c1 c2
  clear hl3
  have b2 : (((w.alloc (Obj.cells #[.int .i64 s, .int .i64 m, .slice (some x) q cap] 34)).alloc (Obj.cells #[.int .i64 p, .int .i64 (t : Int), .bool mn] 100)).alloc (Obj.cells #[.int .i64 0, .int .i64 0, .bool false] 100)).cell? ⟨w.heap.size, 2, none⟩ = some (.slice (some x) q cap) := by simp [go_sem]
  have d0 : (((w.alloc (Obj.cells #[.int .i64 s, .int .i64 m, .slice (some x) q cap] 34)).alloc (Obj.cells #[.int .i64 p, .int .i64 (t : Int), .bool mn] 100)).alloc (Obj.cells #[.int .i64 0, .int .i64 0, .bool false] 100)).cell? ⟨w.heap.size + 1, 0, none⟩ = some (.int .i64 p) := by simp [go_sem]
  have d1 : (((w.alloc (Obj.cells #[.int .i64 s, .int .i64 m, .slice (some x) q cap] 34)).alloc (Obj.cells #[.int .i64 p, .int .i64 (t : Int), .bool mn] 100)).alloc (Obj.cells #[.int .i64 0, .int .i64 0, .bool false] 100)).cell? ⟨w.heap.size + 1, 1, none⟩ = some (.int .i64 (t : Int)) := by simp [go_sem]
  have d2 : (((w.alloc (Obj.cells #[.int .i64 s, .int .i64 m, .slice (some x) q cap] 34)).alloc (Obj.cells #[.int .i64 p, .int .i64 (t : Int), .bool mn] 100)).alloc (Obj.cells #[.int .i64 0, .int .i64 0, .bool false] 100)).cell? ⟨w.heap.size + 1, 2, none⟩ = some (.bool mn) := by simp [go_sem]
  have rX : (((w.alloc (Obj.cells #[.int .i64 s, .int .i64 m, .slice (some x) q cap] 34)).alloc (Obj.cells #[.int .i64 p, .int .i64 (t : Int), .bool mn] 100)).alloc (Obj.cells #[.int .i64 0, .int .i64 0, .bool false] 100)).rowIs (w.heap.size + 1 + 1) 100 3 (fun i => if i = 0 then .int .i64 0 else if i = 1 then .int .i64 0 else .bool false) := by
    have h := spRow (X := (w.alloc (Obj.cells #[.int .i64 s, .int .i64 m, .slice (some x) q cap] 34)).alloc (Obj.cells #[.int .i64 p, .int .i64 (t : Int), .bool mn] 100))
    simpa using h
  have hv : Below w.heap.size w (((w.alloc (Obj.cells #[.int .i64 s, .int .i64 m, .slice (some x) q cap] 34)).alloc (Obj.cells #[.int .i64 p, .int .i64 (t : Int), .bool mn] 100)).alloc (Obj.cells #[.int .i64 0, .int .i64 0, .bool false] 100)) := below_alloc (below_alloc (below_alloc (Below.refl _ _) _) _) _
  have hX : Hid ((((w.alloc (Obj.cells #[.int .i64 s, .int .i64 m, .slice (some x) q cap] 34)).alloc (Obj.cells #[.int .i64 p, .int .i64 (t : Int), .bool mn] 100)).alloc (Obj.cells #[.int .i64 0, .int .i64 0, .bool false] 100)).heap.size = w.heap.size + 3) := Lib.hid (by simp)
  replace c0 := kept1 c0 hv
  replace c1 := kept1 c1 hv
  replace c2 := kept1 c2 hv
  go_enter Tryd.func82, Tryd.ntmps82
  go_upto_region 1 with fail
  generalize ((w.alloc (Obj.cells #[.int .i64 s, .int .i64 m, .slice (some x) q cap] 34)).alloc (Obj.cells #[.int .i64 p, .int .i64 (t : Int), .bool mn] 100)).alloc (Obj.cells #[.int .i64 0, .int .i64 0, .bool false] 100) = X at *
  go_upto_region 5 with fail
  have hXY : Below X.heap.size X (X.alloc (Obj.cells #[.int .i64 f, .int .i64 g, .int .i64 (un : Int)] 61)) := below_alloc (Below.refl _ _) _
  have g0 : (X.alloc (Obj.cells #[.int .i64 f, .int .i64 g, .int .i64 (un : Int)] 61)).cell? ⟨X.heap.size, 0, none⟩ = some (.int .i64 f) := by simp [go_sem]
  have g1 : (X.alloc (Obj.cells #[.int .i64 f, .int .i64 g, .int .i64 (un : Int)] 61)).cell? ⟨X.heap.size, 1, none⟩ = some (.int .i64 g) := by simp [go_sem]
  have g2 : (X.alloc (Obj.cells #[.int .i64 f, .int .i64 g, .int .i64 (un : Int)] 61)).cell? ⟨X.heap.size, 2, none⟩ = some (.int .i64 (un : Int)) := by simp [go_sem]
  have e0 := kept1 d0 hXY
  have e1 := kept1 d1 hXY
  have e2 := kept1 d2 hXY
  have rQ := Below.row' hXY rX
  have bY := Lib.hid (hv.trans (hXY.mono hv.size))
  clear b2 d0 d1 d2 rX hv c0 c1 c2 hXY
  generalize X.alloc (Obj.cells #[.int .i64 f, .int .i64 g, .int .i64 (un : Int)] 61) = Z at *
  have n1 : X.heap.size ≠ w.heap.size + 1 + 1 := by rw [hX.out]; omega
  have n2 : w.heap.size + 1 ≠ w.heap.size + 1 + 1 := by omega
  clear hX
  generalize X.heap.size = lb at *
  clear X
  have S0 : Z.drew.cell? ⟨lb, 0, none⟩ = some (.int .i64 f) ∧ Z.drew.cell? ⟨lb, 1, none⟩ = some (.int .i64 g) ∧ Z.drew.cell? ⟨lb, 2, none⟩ = some (.int .i64 (un : Int)) ∧ Z.drew.cell? ⟨w.heap.size + 1, 0, none⟩ = some (.int .i64 p) ∧ Z.drew.cell? ⟨w.heap.size + 1, 1, none⟩ = some (.int .i64 (t : Int)) ∧ Z.drew.cell? ⟨w.heap.size + 1, 2, none⟩ = some (.bool mn) := ⟨g0, g1, g2, e0, e1, e2⟩
  have t0 : Z.drew.cell? ⟨w.heap.size + 1 + 1, 0, none⟩ = some (.int .i64 0) := rQ.cell (i := 0) (by omega)
  have t1 : Z.drew.cell? ⟨w.heap.size + 1 + 1, 1, none⟩ = some (.int .i64 0) := rQ.cell (i := 1) (by omega)
  have t2 : Z.drew.cell? ⟨w.heap.size + 1 + 1, 2, none⟩ = some (.bool false) := rQ.cell (i := 2) (by omega)
  have tz0 : Z.drew.frozen? ⟨w.heap.size + 1 + 1, 0, none⟩ = false := rQ.frozen 0
  have tz1 : Z.drew.frozen? ⟨w.heap.size + 1 + 1, 1, none⟩ = false := rQ.frozen 1
  have tz2 : Z.drew.frozen? ⟨w.heap.size + 1 + 1, 2, none⟩ = false := rQ.frozen 2
  replace rQ := rQ.drew
  replace bY := Lib.hid bY.out.drew
  clear g0 g1 g2 e0 e1 e2
  refine wp_region_held_drew (S := fun w' => w'.cell? ⟨lb, 0, none⟩ = some (.int .i64 f) ∧ w'.cell? ⟨lb, 1, none⟩ = some (.int .i64 g) ∧ w'.cell? ⟨lb, 2, none⟩ = some (.int .i64 (un : Int)) ∧ w'.cell? ⟨w.heap.size + 1, 0, none⟩ = some (.int .i64 p) ∧ w'.cell? ⟨w.heap.size + 1, 1, none⟩ = some (.int .i64 (t : Int)) ∧ w'.cell? ⟨w.heap.size + 1, 2, none⟩ = some (.bool mn)) (by kernel_rfl) S0 (fun hHeld => ?_)
  clear S0
  generalize Z.drew = Z at *
  skip
  refine wpAnyH_take (i := 0) (v := ?_) rfl (by kernel_rfl) (by kernel_rfl) (by kernel_rfl) (fun _ _ _ h => h) (Or.inl ⟨by rfl, ?_⟩) (by assumption) ?_
  rotate_left 1
  · (intro w hSw; (try dsimp only at hSw); go_simp; all_goals with_reducible rfl)
  try simp only [Act.put, List.setIfInBounds_toArray, List.set_cons_zero, List.set_cons_succ]
  refine wpAnyH_take (i := 1) (v := ?_) rfl (by kernel_rfl) (by kernel_rfl) (by kernel_rfl) (fun _ _ _ h => h) (Or.inl ⟨by rfl, ?_⟩) (by assumption) ?_
  rotate_left 1
  · (intro w hSw; (try dsimp only at hSw); go_simp; all_goals with_reducible rfl)
  try simp only [Act.put, List.setIfInBounds_toArray, List.set_cons_zero, List.set_cons_succ]
  refine wpAnyH_take (i := 2) (v := ?_) rfl (by kernel_rfl) (by kernel_rfl) (by kernel_rfl) (fun _ _ _ h => h) (Or.inl ⟨by rfl, ?_⟩) (by assumption) ?_
  rotate_left 1
  · (intro w hSw; (try dsimp only at hSw); go_simp; all_goals with_reducible rfl)
  try simp only [Act.put, List.setIfInBounds_toArray, List.set_cons_zero, List.set_cons_succ]
  refine wpAnyH_take (i := 3) (v := ?_) rfl (by kernel_rfl) (by kernel_rfl) (by kernel_rfl) (fun _ _ _ h => h) (Or.inl ⟨by rfl, ?_⟩) (by assumption) ?_
  rotate_left 1
  · (intro w hSw; (try dsimp only at hSw); go_simp; all_goals with_reducible rfl)
  try simp only [Act.put, List.setIfInBounds_toArray, List.set_cons_zero, List.set_cons_succ]
  refine wpAnyH_take (i := 4) (v := ?_) rfl (by kernel_rfl) (by kernel_rfl) (by kernel_rfl) (fun _ _ _ h => h) (Or.inl ⟨by rfl, ?_⟩) (by assumption) ?_
  rotate_left 1
  · (intro w hSw; (try dsimp only at hSw); go_simp; all_goals with_reducible rfl)
  try simp only [Act.put, List.setIfInBounds_toArray, List.set_cons_zero, List.set_cons_succ]
  refine wpAnyH_take (i := 5) (v := ?_) rfl (by kernel_rfl) (by kernel_rfl) (by kernel_rfl) (fun _ _ _ h => h) (Or.inl ⟨by rfl, ?_⟩) (by assumption) ?_
  rotate_left 1
  · (intro w hSw; (try dsimp only at hSw); go_simp; all_goals with_reducible rfl)
  try simp only [Act.put, List.setIfInBounds_toArray, List.set_cons_zero, List.set_cons_succ]
  refine wpAnyH_take (i := 6) (v := ?_) rfl (by kernel_rfl) (by kernel_rfl) (by kernel_rfl) (fun _ _ _ h => h) (Or.inl ⟨by rfl, ?_⟩) (by assumption) ?_
  rotate_left 1
  · (intro w hSw; (try dsimp only at hSw); go_simp; all_goals with_reducible rfl)
  try simp only [Act.put, List.setIfInBounds_toArray, List.set_cons_zero, List.set_cons_succ]
  refine wpAnyH_take (i := 9) (v := ?_) rfl (by kernel_rfl) (by kernel_rfl) (by kernel_rfl) (fun _ _ _ h => h) (Or.inl ⟨by rfl, ?_⟩) (by assumption) ?_
  rotate_left 1
  · (intro w hSw; (try dsimp only at hSw); go_simp; all_goals with_reducible rfl)
  try simp only [Act.put, List.setIfInBounds_toArray, List.set_cons_zero, List.set_cons_succ]
  refine wpAnyH_take (i := 10) (v := ?_) rfl (by kernel_rfl) (by kernel_rfl) (by kernel_rfl) (fun _ _ _ h => h) (Or.inl ⟨by rfl, ?_⟩) (by assumption) ?_
  rotate_left 1
  · (intro w hSw; (try dsimp only at hSw); go_simp; all_goals with_reducible rfl)
  try simp only [Act.put, List.setIfInBounds_toArray, List.set_cons_zero, List.set_cons_succ]
  refine wpAnyH_take (i := 11) (v := ?_) rfl (by kernel_rfl) (by kernel_rfl) (by kernel_rfl) (fun _ _ _ h => h) (Or.inl ⟨by rfl, ?_⟩) (by assumption) ?_
  rotate_left 1
  · (intro w hSw; (try dsimp only at hSw); go_simp; all_goals with_reducible rfl)
  try simp only [Act.put, List.setIfInBounds_toArray, List.set_cons_zero, List.set_cons_succ]
  refine wpAnyH_take (i := 12) (v := ?_) rfl (by kernel_rfl) (by kernel_rfl) (by kernel_rfl) (fun _ _ _ h => h) (Or.inl ⟨by rfl, ?_⟩) (by assumption) ?_
  rotate_left 1
  · (intro w hSw; (try dsimp only at hSw); go_simp; all_goals with_reducible rfl)
  try simp only [Act.put, List.setIfInBounds_toArray, List.set_cons_zero, List.set_cons_succ]
  refine wpAnyH_take (i := 15) (v := ?_) rfl (by kernel_rfl) (by kernel_rfl) (by kernel_rfl) (fun _ _ _ h => h) (Or.inl ⟨by rfl, ?_⟩) (by assumption) ?_
  rotate_left 1
  · (intro w hSw; (try dsimp only at hSw); go_simp; all_goals with_reducible rfl)
  try simp only [Act.put, List.setIfInBounds_toArray, List.set_cons_zero, List.set_cons_succ]
  refine wpAnyH_take (i := 16) (v := ?_) rfl (by kernel_rfl) (by kernel_rfl) (by kernel_rfl) (fun _ _ _ h => h) (Or.inl ⟨by rfl, ?_⟩) (by assumption) ?_
  rotate_left 1
  · (intro w hSw; (try dsimp only at hSw); go_simp; all_goals with_reducible rfl)
  try simp only [Act.put, List.setIfInBounds_toArray, List.set_cons_zero, List.set_cons_succ]
  refine wpAnyH_take (i := 17) (v := ?_) rfl (by kernel_rfl) (by kernel_rfl) (by kernel_rfl) (fun _ _ _ h => h) (Or.inl ⟨by rfl, ?_⟩) (by assumption) ?_
  rotate_left 1
  · (intro w hSw; (try dsimp only at hSw); go_simp; all_goals with_reducible rfl)
  try simp only [Act.put, List.setIfInBounds_toArray, List.set_cons_zero, List.set_cons_succ]
  refine wpAnyH_take (i := 18) (v := ?_) rfl (by kernel_rfl) (by kernel_rfl) (by kernel_rfl) (fun _ _ _ h => h) (Or.inl ⟨by rfl, ?_⟩) (by assumption) ?_
  rotate_left 1
  · (intro w hSw; (try dsimp only at hSw); go_simp; all_goals with_reducible rfl)
  try simp only [Act.put, List.setIfInBounds_toArray, List.set_cons_zero, List.set_cons_succ]
  refine wpAnyH_take (i := 19) (v := ?_) rfl (by kernel_rfl) (by kernel_rfl) (by kernel_rfl) (fun _ _ _ h => h) (Or.inl ⟨by rfl, ?_⟩) (by assumption) ?_
  rotate_left 1
  · (intro w hSw; (try dsimp only at hSw); go_simp; all_goals with_reducible rfl)
  try simp only [Act.put, List.setIfInBounds_toArray, List.set_cons_zero, List.set_cons_succ]
  refine wpAnyH_ready (rs := [7]) (by kernel_rfl) (by simp) ?_
  refine AllReadyH.cons rfl (fun K hK => ?_) ?_
  rotate_left 1
  · exact AllReadyH.nil
  go_simp
  with_reducible refine (HB.out _).mono ?_
  rintro e wp ⟨he, hbp⟩
  subst he
  subst hbp
  refine hK.out _ _ hHeld (fun hHeld2 => ?_)
  clear hK K hHeld
  have hHeld := hHeld2
  clear hHeld2
  try simp only [Act.put, List.setIfInBounds_toArray, List.set_cons_zero, List.set_cons_succ]
  refine wpAnyH_ready (rs := [8]) (by kernel_rfl) (by simp) ?_
  refine AllReadyH.cons rfl (fun K hK => ?_) ?_
  rotate_left 1
  · exact AllReadyH.nil
  go_simp
  with_reducible refine (HA.out _).mono ?_
  rintro e wp ⟨he, hbp⟩
  subst he
  subst hbp
  refine hK.out _ _ hHeld (fun hHeld2 => ?_)
  clear hK K hHeld
  have hHeld := hHeld2
  clear hHeld2
  try simp only [Act.put, List.setIfInBounds_toArray, List.set_cons_zero, List.set_cons_succ]
  refine wpAnyH_take (i := 13) (v := ?_) rfl (by kernel_rfl) (by kernel_rfl) (by kernel_rfl) (fun _ _ _ h => h) (Or.inl ⟨by rfl, ?_⟩) (by assumption) ?_
  rotate_left 1
  · (intro w hSw; (try dsimp only at hSw); go_simp; all_goals with_reducible rfl)
  try simp only [Act.put, List.setIfInBounds_toArray, List.set_cons_zero, List.set_cons_succ]
  refine wpAnyH_take (i := 14) (v := ?_) rfl (by kernel_rfl) (by kernel_rfl) (by kernel_rfl) (fun _ _ _ h => h) (Or.inl ⟨by rfl, ?_⟩) (by assumption) ?_
  rotate_left 1
  · (intro w hSw; (try dsimp only at hSw); go_simp; all_goals with_reducible rfl)
  try simp only [Act.put, List.setIfInBounds_toArray, List.set_cons_zero, List.set_cons_succ]
  refine wpAnyH_ready (rs := [20]) (by kernel_rfl) (by simp) ?_
  refine AllReadyH.cons rfl (fun K hK => ?_) ?_
  rotate_left 1
  · exact AllReadyH.nil
  go_simp
  refine hK.out _ _ ?_ (fun hHeld2 => ?_)
  · obtain ⟨y0, y1, y2, y3, y4, y5⟩ := hHeld
    clear hK K
    refine ⟨?_, ?_, ?_, ?_, ?_, ?_⟩ <;> simp [go_sem, n1, n2, Ne.symm n1, Ne.symm n2, *]
  clear hK K hHeld
  have hHeld := hHeld2
  clear hHeld2
  try simp only [Act.put, List.setIfInBounds_toArray, List.set_cons_zero, List.set_cons_succ]
  refine wpAnyH_take (i := 21) (v := ?_) rfl (by kernel_rfl) (by kernel_rfl) (by kernel_rfl) (fun _ _ _ h => h) (Or.inl ⟨by rfl, ?_⟩) (by assumption) ?_
  rotate_left 1
  · (intro w hSw; (try dsimp only at hSw); go_simp; all_goals with_reducible rfl)
  try simp only [Act.put, List.setIfInBounds_toArray, List.set_cons_zero, List.set_cons_succ]
  clear hHeld
  refine wpAnyH_done (by kernel_rfl) ?_ _
  try simp only [List.getElem_toArray, List.getElem_cons_succ, List.getElem_cons_zero]
  have hq0 : (((wp.setCell ⟨w.heap.size + 1 + 1, 0, none⟩ (.int .i64 f)).setCell ⟨w.heap.size + 1 + 1, 1, none⟩ (.int .i64 (ct : Int))).setCell ⟨w.heap.size + 1 + 1, 2, none⟩ (.bool (!mn))).cell? ⟨w.heap.size + 1 + 1, 0, none⟩ = some (.int .i64 f) := (((rQ.set 0 (.int .i64 f)).set 1 (.int .i64 (ct : Int))).set 2 (.bool (!mn))).cell (i := 0) (by omega)
  have hq1 : (((wp.setCell ⟨w.heap.size + 1 + 1, 0, none⟩ (.int .i64 f)).setCell ⟨w.heap.size + 1 + 1, 1, none⟩ (.int .i64 (ct : Int))).setCell ⟨w.heap.size + 1 + 1, 2, none⟩ (.bool (!mn))).cell? ⟨w.heap.size + 1 + 1, 1, none⟩ = some (.int .i64 (ct : Int)) := (((rQ.set 0 (.int .i64 f)).set 1 (.int .i64 (ct : Int))).set 2 (.bool (!mn))).cell (i := 1) (by omega)
  have hq2 : (((wp.setCell ⟨w.heap.size + 1 + 1, 0, none⟩ (.int .i64 f)).setCell ⟨w.heap.size + 1 + 1, 1, none⟩ (.int .i64 (ct : Int))).setCell ⟨w.heap.size + 1 + 1, 2, none⟩ (.bool (!mn))).cell? ⟨w.heap.size + 1 + 1, 2, none⟩ = some (.bool (!mn)) := (((rQ.set 0 (.int .i64 f)).set 1 (.int .i64 (ct : Int))).set 2 (.bool (!mn))).cell (i := 2) (by omega)
  have hZ : Below w.heap.size w (((wp.setCell ⟨w.heap.size + 1 + 1, 0, none⟩ (.int .i64 f)).setCell ⟨w.heap.size + 1 + 1, 1, none⟩ (.int .i64 (ct : Int))).setCell ⟨w.heap.size + 1 + 1, 2, none⟩ (.bool (!mn))) := ((bY.out.setCell (p := ⟨w.heap.size + 1 + 1, 0, none⟩) (by show w.heap.size ≤ w.heap.size + 1 + 1; omega) _).setCell (p := ⟨w.heap.size + 1 + 1, 1, none⟩) (by show w.heap.size ≤ w.heap.size + 1 + 1; omega) _).setCell (p := ⟨w.heap.size + 1 + 1, 2, none⟩) (by show w.heap.size ≤ w.heap.size + 1 + 1; omega) _
  clear t0 t1 t2 tz0 tz1 tz2
  generalize ((wp.setCell ⟨w.heap.size + 1 + 1, 0, none⟩ (.int .i64 f)).setCell ⟨w.heap.size + 1 + 1, 1, none⟩ (.int .i64 (ct : Int))).setCell ⟨w.heap.size + 1 + 1, 2, none⟩ (.bool (!mn)) = V at *
  go_wp2
  have hbo := hbb.out
  rw [hbo]
  refine bodyPost_ret (v := .tuple #[.agg #[.int .i64 f, .int .i64 (ct : Int), .bool (!mn)], .bool bb]) (by simp [results, Tryd.results82, go_sem, hq0, hq1, hq2]) rfl ?_
  exact ⟨rfl, hZ⟩

end Go.Proofs.YtidcedilfhmllaaDoor
