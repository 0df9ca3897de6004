/- What the claims of layer 2 share, part 5: several texts one behind the other. -/
import Derived.StillTailTactics
import Derived.Maps.OwnSet
import Derived.DeepKeys4
import Derived.Test.YtmkjmpkicmadcaaDoorZ04
set_option linter.unusedSimpArgs false
set_option linter.unusedVariables false
/- Contracts of package plate: uniting two classes. -/
namespace Go.Proofs.YtmkjmpkicmadcaaDoor
open Go.RowKit

/-- integers in a row, which may be longer -/
def RowF (W : World) (b N : Nat) (f : Nat → Int) : Prop := ∀ k, k < N → W.cell? ⟨b, k, none⟩ = some (.int .i64 (f k)) ∧ W.frozen? ⟨b, k, none⟩ = false
theorem RowF.set {W : World} {b N : Nat} {f : Nat → Int} (h : RowF W b N f) (j : Nat) (z : Int) : RowF (W.setCell ⟨b, j, none⟩ (.int .i64 z)) b N (fun k => if k = j then z else f k) := fun k hk => by
  obtain ⟨h1, h2⟩ := h k hk
  by_cases e : k = j
  · subst e
    refine ⟨?_, ?_⟩
    · simp [go_sem, h1]
    · rw [← h2]; simp [go_sem]
  · refine ⟨?_, ?_⟩
    · simp [go_sem, e, h1]
    · rw [← h2]; simp [go_sem]
theorem RowF.other {W : World} {b N : Nat} {f : Nat → Int} (h : RowF W b N f) (p : Addr) (v : Value) (hp : p.block ≠ b) : RowF (W.setCell p v) b N f := fun k hk => by
  obtain ⟨h1, h2⟩ := h k hk
  have e : (⟨b, k, none⟩ : Addr) ≠ p := fun e => hp (by rw [← e])
  refine ⟨?_, ?_⟩
  · rw [← h1]; simp [go_sem, e, Ne.symm e, hp, Ne.symm hp]
  · rw [← h2]; simp [go_sem]
theorem RowF.congr {W : World} {b N : Nat} {f g : Nat → Int} (h : RowF W b N f) (hg : ∀ k, k < N → f k = g k) : RowF W b N g := fun k hk => by rw [← hg k hk]; exact h k hk

/-- the two lists of classes -/
structure UN (W : World) (b3 b4 lb wb N cl cw : Nat) (lf : Nat → Nat) (wf : Nat → Int) : Prop where
  c3 : W.cell? ⟨b3, 0, none⟩ = some (.slice (some ⟨lb, 0, none⟩) N cl)
  c4 : W.cell? ⟨b4, 0, none⟩ = some (.slice (some ⟨wb, 0, none⟩) N cw)
  l : RowF W lb N fun k => (lf k : Int)
  w : RowF W wb N wf
/-- unite -/
structure NE (b3 b4 lb wb : Nat) : Prop where
  n1 : lb ≠ wb
  n2 : b3 ≠ lb
  n3 : b3 ≠ wb
  n4 : b4 ≠ lb
  n5 : b4 ≠ wb
theorem UN.setL {W : World} {b3 b4 lb wb N cl cw : Nat} {lf : Nat → Nat} {wf : Nat → Int} (h : UN W b3 b4 lb wb N cl cw lf wf) (ne : NE b3 b4 lb wb) (k z : Nat) : UN (W.setCell ⟨lb, k, none⟩ (.int .i64 (z : Int))) b3 b4 lb wb N cl cw (fun c => if c = k then z else lf c) wf :=
  ⟨by rw [← h.c3]; simp [go_sem, ne.n2, Ne.symm ne.n2], by rw [← h.c4]; simp [go_sem, ne.n4, Ne.symm ne.n4], (h.l.set k z).congr (fun j _ => by by_cases e : j = k <;> simp [e]), h.w.other ⟨lb, k, none⟩ _ ne.n1⟩
theorem UN.setW {W : World} {b3 b4 lb wb N cl cw : Nat} {lf : Nat → Nat} {wf : Nat → Int} (h : UN W b3 b4 lb wb N cl cw lf wf) (ne : NE b3 b4 lb wb) (k : Nat) (z : Int) : UN (W.setCell ⟨wb, k, none⟩ (.int .i64 z)) b3 b4 lb wb N cl cw lf (fun c => if c = k then z else wf c) :=
  ⟨by rw [← h.c3]; simp [go_sem, ne.n3, Ne.symm ne.n3], by rw [← h.c4]; simp [go_sem, ne.n5, Ne.symm ne.n5], h.l.other ⟨wb, k, none⟩ _ (Ne.symm ne.n1), h.w.set k z⟩
theorem UN.congr {W : World} {b3 b4 lb wb N cl cw : Nat} {lf lf' : Nat → Nat} {wf wf' : Nat → Int} (h : UN W b3 b4 lb wb N cl cw lf wf) (h1 : ∀ k, k < N → lf k = lf' k) (h2 : ∀ k, k < N → wf k = wf' k) : UN W b3 b4 lb wb N cl cw lf' wf' :=
  ⟨h.c3, h.c4, h.l.congr (fun k hk => by rw [h1 k hk]), h.w.congr h2⟩
theorem UN.drew {W : World} {b3 b4 lb wb N cl cw : Nat} {lf : Nat → Nat} {wf : Nat → Int} (h : UN W b3 b4 lb wb N cl cw lf wf) : UN W.drew b3 b4 lb wb N cl cw lf wf := ⟨h.c3, h.c4, h.l, h.w⟩
theorem tri_bd {a : Int} (h : a = 1 ∨ a = -1 ∨ a = 0) : -1 ≤ a ∧ a ≤ 1 := by omega
theorem wrap_bd {a : Int} (h : -1 ≤ a ∧ a ≤ 1) : IntKind.i64.wrap a = a := by rw [IntWalk.i64_left]; exact IntWalk.wrap64_in _ (by omega)

set_option maxRecDepth 100000 in
set_option maxHeartbeats 8000000 in
theorem unite_any (b3 b4 lb wb N cl cw x y : Nat) (e : Bool) (lf : Nat → Nat) (wf : Nat → Int) (hx : x < N) (hy : y < N) (hN : N ≤ 36) (hl : Hid (∀ k, k < N → lf k < N)) (hw : Hid (∀ k, k < N → wf k = 1 ∨ wf k = -1 ∨ wf k = 0)) (ne : NE b3 b4 lb wb) (w : World) (hU : Hid (UN w b3 b4 lb wb N cl cw lf wf)) :
    Calls Tryd.prog 68 #[.int .i64 (x : Int), .int .i64 (y : Int), .int .i64 (Pl.sg e), .pointer (some ⟨b3, 0, none⟩), .pointer (some ⟨b4, 0, none⟩)] w fun e' w' => e' = .returned (.tuple #[]) ∧ Hid (UN w' b3 b4 lb wb N cl cw (Pl.unL lf x y) (Pl.unW lf wf x y e)) ∧ Hid (But (fun g => g = lb ∨ g = wb) w w') := by
  obtain ⟨ux, hux⟩ : ∃ u, lf x = u := ⟨_, rfl⟩
  obtain ⟨uy, huy⟩ : ∃ u, lf y = u := ⟨_, rfl⟩
  obtain ⟨vx, hvx⟩ : ∃ u, wf x = u := ⟨_, rfl⟩
  obtain ⟨vy, hvy⟩ : ∃ u, wf y = u := ⟨_, rfl⟩
  obtain ⟨se, hse⟩ : ∃ u, Pl.sg e = u := ⟨_, rfl⟩
  have c3 := hU.out.c3
  have c4 := hU.out.c4
  have cx := (hU.out.l x hx).1
  have cy := (hU.out.l y hy).1
  have dx := (hU.out.w x hx).1
  have dy := (hU.out.w y hy).1
  simp only at cx cy
  rw [hux] at cx
  rw [huy] at cy
  rw [hvx] at dx
  rw [hvy] at dy
  have kx : ux < N := by rw [← hux]; exact hl.out x hx
  have ky : uy < N := by rw [← huy]; exact hl.out y hy
  have jx : vx = 1 ∨ vx = -1 ∨ vx = 0 := by rw [← hvx]; exact hw.out x hx
  have jy : vy = 1 ∨ vy = -1 ∨ vy = 0 := by rw [← hvy]; exact hw.out y hy
  have je : se = 1 ∨ se = -1 ∨ se = 0 := by rw [← hse]; rcases Pl.sg_cases e with h | h <;> simp [h]
  have m1 := wrap_bd (tri_bd (Pl.tri_mul jx je))
  have m2 := wrap_bd (tri_bd (Pl.tri_mul (Pl.tri_mul jx je) jy))
  have hst : Pl.stay lf x y = min ux uy := by unfold Pl.stay; rw [hux, huy]
  have hgo : Pl.goes lf x y = max ux uy := by unfold Pl.goes; rw [hux, huy]
  have hac : Pl.across lf wf x y e = if min ux uy = max ux uy ∧ vx * se * vy = -1 then 0 else vx * se * vy := by unfold Pl.across; rw [hst, hgo, hvx, hvy, hse]
  rw [hse]
  have i1 : (0 : Int) ≤ (x : Int) := by omega
  have i2 : (x : Int) < (N : Int) := by omega
  have i3 : (0 : Int) ≤ (y : Int) := by omega
  have i4 : (y : Int) < (N : Int) := by omega
  have hmn : (if uy < ux then (uy : Int) else (ux : Int)) = ((min ux uy : Nat) : Int) := by split <;> omega
  have hmx : (if ux < uy then (uy : Int) else (ux : Int)) = ((max ux uy : Nat) : Int) := by split <;> omega
  obtain ⟨P, hP⟩ : ∃ P, vx * se * vy = P := ⟨_, rfl⟩
  have jP : P = 1 ∨ P = -1 ∨ P = 0 := by rw [← hP]; exact Pl.tri_mul (Pl.tri_mul jx je) jy
  rw [hP] at hac
  have m3 : IntKind.i64.wrap (IntKind.i64.wrap (vx * se) * vy) = P := by rw [m1, m2, hP]
  replace hst := Lib.hid hst
  replace hgo := Lib.hid hgo
  replace hac := Lib.hid hac
  replace hP := Lib.hid hP
  replace jP := Lib.hid jP
  clear hux huy hvx hvy hse jx jy je
  go_enter Tryd.func68, Tryd.ntmps68
  go_upto_region 0 with fail
  have S0 : w.drew.cell? ⟨b3, 0, none⟩ = some (.slice (some ⟨lb, 0, none⟩) N cl) ∧ w.drew.cell? ⟨lb, x, none⟩ = some (.int .i64 (ux : Int)) ∧ w.drew.cell? ⟨lb, y, none⟩ = some (.int .i64 (uy : Int)) := ⟨c3, cx, cy⟩
  refine region_head_held 19 (fun w' => w'.cell? ⟨b3, 0, none⟩ = some (.slice (some ⟨lb, 0, none⟩) N cl) ∧ w'.cell? ⟨lb, x, none⟩ = some (.int .i64 (ux : Int)) ∧ w'.cell? ⟨lb, y, none⟩ = some (.int .i64 (uy : Int))) (by kernel_rfl) (by kernel_rfl) S0 (fun hHeld => ?_)
  simp only [List.take_succ_cons, List.take_zero, List.drop_succ_cons, List.drop_zero]
  refine wpAnyH_take (i := 0) (v := ?_) rfl (by kernel_rfl) (by kernel_rfl) (by kernel_rfl) (fun _ _ _ h => h) (Or.inl ⟨by rfl, ?_⟩) (by assumption) ?_
  rotate_left 1
  · (intro w hSw; (try dsimp only at hSw); go_simp; all_goals with_reducible rfl)
  try simp only [Act.put, List.setIfInBounds_toArray, List.set_cons_zero, List.set_cons_succ]
  refine wpAnyH_take (i := 1) (v := ?_) rfl (by kernel_rfl) (by kernel_rfl) (by kernel_rfl) (fun _ _ _ h => h) (Or.inl ⟨by rfl, ?_⟩) (by assumption) ?_
  rotate_left 1
  · (intro w hSw; (try dsimp only at hSw); go_simp; all_goals with_reducible rfl)
  try simp only [Act.put, List.setIfInBounds_toArray, List.set_cons_zero, List.set_cons_succ]
  refine wpAnyH_take (i := 2) (v := ?_) rfl (by kernel_rfl) (by kernel_rfl) (by kernel_rfl) (fun _ _ _ h => h) (Or.inl ⟨by rfl, ?_⟩) (by assumption) ?_
  rotate_left 1
  · (intro w hSw; (try dsimp only at hSw); go_simp; all_goals with_reducible rfl)
  try simp only [Act.put, List.setIfInBounds_toArray, List.set_cons_zero, List.set_cons_succ]
  refine wpAnyH_take (i := 3) (v := ?_) rfl (by kernel_rfl) (by kernel_rfl) (by kernel_rfl) (fun _ _ _ h => h) (Or.inl ⟨by rfl, ?_⟩) (by assumption) ?_
  rotate_left 1
  · (intro w hSw; (try dsimp only at hSw); go_simp; all_goals with_reducible rfl)
  try simp only [Act.put, List.setIfInBounds_toArray, List.set_cons_zero, List.set_cons_succ]
  refine wpAnyH_take (i := 4) (v := ?_) rfl (by kernel_rfl) (by kernel_rfl) (by kernel_rfl) (fun _ _ _ h => h) (Or.inl ⟨by rfl, ?_⟩) (by assumption) ?_
  rotate_left 1
  · (intro w hSw; (try dsimp only at hSw); go_simp; all_goals with_reducible rfl)
  try simp only [Act.put, List.setIfInBounds_toArray, List.set_cons_zero, List.set_cons_succ]
  refine wpAnyH_take (i := 5) (v := ?_) rfl (by kernel_rfl) (by kernel_rfl) (by kernel_rfl) (fun _ _ _ h => h) (Or.inl ⟨by rfl, ?_⟩) (by assumption) ?_
  rotate_left 1
  · (intro w hSw; (try dsimp only at hSw); go_simp; all_goals with_reducible rfl)
  try simp only [Act.put, List.setIfInBounds_toArray, List.set_cons_zero, List.set_cons_succ]
  refine wpAnyH_take (i := 6) (v := ?_) rfl (by kernel_rfl) (by kernel_rfl) (by kernel_rfl) (fun _ _ _ h => h) (Or.inl ⟨by rfl, ?_⟩) (by assumption) ?_
  rotate_left 1
  · (intro w hSw; (try dsimp only at hSw); go_simp; all_goals with_reducible rfl)
  try simp only [Act.put, List.setIfInBounds_toArray, List.set_cons_zero, List.set_cons_succ]
  refine wpAnyH_take (i := 7) (v := ?_) rfl (by kernel_rfl) (by kernel_rfl) (by kernel_rfl) (fun _ _ _ h => h) (Or.inl ⟨by rfl, ?_⟩) (by assumption) ?_
  rotate_left 1
  · (intro w hSw; (try dsimp only at hSw); go_simp; all_goals with_reducible rfl)
  try simp only [Act.put, List.setIfInBounds_toArray, List.set_cons_zero, List.set_cons_succ]
  refine wpAnyH_take (i := 8) (v := ?_) rfl (by kernel_rfl) (by kernel_rfl) (by kernel_rfl) (fun _ _ _ h => h) (Or.inl ⟨by rfl, ?_⟩) (by assumption) ?_
  rotate_left 1
  · (intro w hSw; (try dsimp only at hSw); go_simp; all_goals with_reducible rfl)
  try simp only [Act.put, List.setIfInBounds_toArray, List.set_cons_zero, List.set_cons_succ]
  refine wpAnyH_take (i := 9) (v := ?_) rfl (by kernel_rfl) (by kernel_rfl) (by kernel_rfl) (fun _ _ _ h => h) (Or.inl ⟨by rfl, ?_⟩) (by assumption) ?_
  rotate_left 1
  · (intro w hSw; (try dsimp only at hSw); go_simp; all_goals with_reducible rfl)
  try simp only [Act.put, List.setIfInBounds_toArray, List.set_cons_zero, List.set_cons_succ]
  refine wpAnyH_take (i := 10) (v := ?_) rfl (by kernel_rfl) (by kernel_rfl) (by kernel_rfl) (fun _ _ _ h => h) (Or.inl ⟨by rfl, ?_⟩) (by assumption) ?_
  rotate_left 1
  · (intro w hSw; (try dsimp only at hSw); go_simp; all_goals with_reducible rfl)
  try simp only [Act.put, List.setIfInBounds_toArray, List.set_cons_zero, List.set_cons_succ]
  refine wpAnyH_take (i := 11) (v := ?_) rfl (by kernel_rfl) (by kernel_rfl) (by kernel_rfl) (fun _ _ _ h => h) (Or.inl ⟨by rfl, ?_⟩) (by assumption) ?_
  rotate_left 1
  · (intro w hSw; (try dsimp only at hSw); go_simp; all_goals with_reducible rfl)
  try simp only [Act.put, List.setIfInBounds_toArray, List.set_cons_zero, List.set_cons_succ]
  refine wpAnyH_take (i := 12) (v := ?_) rfl (by kernel_rfl) (by kernel_rfl) (by kernel_rfl) (fun _ _ _ h => h) (Or.inl ⟨by rfl, ?_⟩) (by assumption) ?_
  rotate_left 1
  · (intro w hSw; (try dsimp only at hSw); go_simp; all_goals with_reducible rfl)
  try simp only [Act.put, List.setIfInBounds_toArray, List.set_cons_zero, List.set_cons_succ]
  refine wpAnyH_take (i := 13) (v := ?_) rfl (by kernel_rfl) (by kernel_rfl) (by kernel_rfl) (fun _ _ _ h => h) (Or.inl ⟨by rfl, ?_⟩) (by assumption) ?_
  rotate_left 1
  · (intro w hSw; (try dsimp only at hSw); go_simp; all_goals with_reducible rfl)
  try simp only [Act.put, List.setIfInBounds_toArray, List.set_cons_zero, List.set_cons_succ]
  refine wpAnyH_take (i := 14) (v := ?_) rfl (by kernel_rfl) (by kernel_rfl) (by kernel_rfl) (fun _ _ _ h => h) (Or.inl ⟨by rfl, ?_⟩) (by assumption) ?_
  rotate_left 1
  · (intro w hSw; (try dsimp only at hSw); go_simp; all_goals with_reducible rfl)
  try simp only [Act.put, List.setIfInBounds_toArray, List.set_cons_zero, List.set_cons_succ]
  refine wpAnyH_take (i := 15) (v := ?_) rfl (by kernel_rfl) (by kernel_rfl) (by kernel_rfl) (fun _ _ _ h => h) (Or.inl ⟨by rfl, ?_⟩) (by assumption) ?_
  rotate_left 1
  · (intro w hSw; (try dsimp only at hSw); go_simp; all_goals with_reducible rfl)
  try simp only [Act.put, List.setIfInBounds_toArray, List.set_cons_zero, List.set_cons_succ]
  refine wpAnyH_take (i := 16) (v := ?_) rfl (by kernel_rfl) (by kernel_rfl) (by kernel_rfl) (fun _ _ _ h => h) (Or.inl ⟨by rfl, ?_⟩) (by assumption) ?_
  rotate_left 1
  · (intro w hSw; (try dsimp only at hSw); go_simp; all_goals with_reducible rfl)
  try simp only [Act.put, List.setIfInBounds_toArray, List.set_cons_zero, List.set_cons_succ]
  refine wpAnyH_take (i := 17) (v := ?_) rfl (by kernel_rfl) (by kernel_rfl) (by kernel_rfl) (fun _ _ _ h => h) (Or.inl ⟨by rfl, ?_⟩) (by assumption) ?_
  rotate_left 1
  · (intro w hSw; (try dsimp only at hSw); go_simp; all_goals with_reducible rfl)
  try simp only [Act.put, List.setIfInBounds_toArray, List.set_cons_zero, List.set_cons_succ]
  refine wpAnyH_take (i := 18) (v := ?_) rfl (by kernel_rfl) (by kernel_rfl) (by kernel_rfl) (fun _ _ _ h => h) (Or.inl ⟨by rfl, ?_⟩) (by assumption) ?_
  rotate_left 1
  · (intro w hSw; (try dsimp only at hSw); go_simp; all_goals with_reducible rfl)
  try simp only [Act.put, List.setIfInBounds_toArray, List.set_cons_zero, List.set_cons_succ]
  refine wpAnyH_done (by kernel_rfl) ?_ _
  show wpList _ _ _ _ _ _
  clear hHeld S0
  go_upto_region 1 with fail
  obtain ⟨st, hst0⟩ : ∃ st, min ux uy = st := ⟨_, rfl⟩
  obtain ⟨gs, hgs0⟩ : ∃ gs, max ux uy = gs := ⟨_, rfl⟩
  rw [hst0] at hst hac ⊢
  rw [hgs0] at hgo hac ⊢
  have c4' : w.drew.cell? ⟨b4, 0, none⟩ = some (.slice (some ⟨wb, 0, none⟩) N cw) := c4
  have dx' : w.drew.cell? ⟨wb, x, none⟩ = some (.int .i64 vx) := dx
  have dy' : w.drew.cell? ⟨wb, y, none⟩ = some (.int .i64 vy) := dy
  have hU' := Lib.hid hU.out.drew
  have hB' : Hid (But (fun g => g = lb ∨ g = wb) w w.drew) := Lib.hid (But.of_below (Below.refl _ _).drew)
  clear hst0 hgs0 hmn hmx c3 c4 cx cy dx dy hU kx ky
  generalize w.drew = Y at *
  have FV := Lib.hid fun (nq : Nat) => (UN.mk hU'.out.c3 hU'.out.c4 hU'.out.l hU'.out.w : UN (Y.drewN nq) b3 b4 lb wb N cl cw lf wf)
  have FC := Lib.hid fun (nq : Nat) => (hB'.out.trans (.of_below (drewN_below (w := Y) nq)) : But (fun g => g = lb ∨ g = wb) w (Y.drewN nq))
  clear hU' hB'
  go_upto_region 1 with fail
  have S1 : Y.drew.cell? ⟨b4, 0, none⟩ = some (.slice (some ⟨wb, 0, none⟩) N cw) ∧ Y.drew.cell? ⟨wb, x, none⟩ = some (.int .i64 vx) ∧ Y.drew.cell? ⟨wb, y, none⟩ = some (.int .i64 vy) := ⟨c4', dx', dy'⟩
  refine region_head_held 11 (fun w' => w'.cell? ⟨b4, 0, none⟩ = some (.slice (some ⟨wb, 0, none⟩) N cw) ∧ w'.cell? ⟨wb, x, none⟩ = some (.int .i64 vx) ∧ w'.cell? ⟨wb, y, none⟩ = some (.int .i64 vy)) (by kernel_rfl) (by kernel_rfl) S1 (fun hHeld => ?_)
  simp only [List.take_succ_cons, List.take_zero, List.drop_succ_cons, List.drop_zero]
  refine wpAnyH_take (i := 0) (v := ?_) rfl (by kernel_rfl) (by kernel_rfl) (by kernel_rfl) (fun _ _ _ h => h) (Or.inl ⟨by rfl, ?_⟩) (by assumption) ?_
  rotate_left 1
  · (intro w hSw; (try dsimp only at hSw); go_simp; all_goals with_reducible rfl)
  try simp only [Act.put, List.setIfInBounds_toArray, List.set_cons_zero, List.set_cons_succ]
  refine wpAnyH_take (i := 1) (v := ?_) rfl (by kernel_rfl) (by kernel_rfl) (by kernel_rfl) (fun _ _ _ h => h) (Or.inl ⟨by rfl, ?_⟩) (by assumption) ?_
  rotate_left 1
  · (intro w hSw; (try dsimp only at hSw); go_simp; all_goals with_reducible rfl)
  try simp only [Act.put, List.setIfInBounds_toArray, List.set_cons_zero, List.set_cons_succ]
  refine wpAnyH_take (i := 2) (v := ?_) rfl (by kernel_rfl) (by kernel_rfl) (by kernel_rfl) (fun _ _ _ h => h) (Or.inl ⟨by rfl, ?_⟩) (by assumption) ?_
  rotate_left 1
  · (intro w hSw; (try dsimp only at hSw); go_simp; all_goals with_reducible rfl)
  try simp only [Act.put, List.setIfInBounds_toArray, List.set_cons_zero, List.set_cons_succ]
  refine wpAnyH_take (i := 3) (v := ?_) rfl (by kernel_rfl) (by kernel_rfl) (by kernel_rfl) (fun _ _ _ h => h) (Or.inl ⟨by rfl, ?_⟩) (by assumption) ?_
  rotate_left 1
  · (intro w hSw; (try dsimp only at hSw); go_simp; all_goals with_reducible rfl)
  try simp only [Act.put, List.setIfInBounds_toArray, List.set_cons_zero, List.set_cons_succ]
  refine wpAnyH_take (i := 4) (v := ?_) rfl (by kernel_rfl) (by kernel_rfl) (by kernel_rfl) (fun _ _ _ h => h) (Or.inl ⟨by rfl, ?_⟩) (by assumption) ?_
  rotate_left 1
  · (intro w hSw; (try dsimp only at hSw); go_simp; all_goals with_reducible rfl)
  try simp only [Act.put, List.setIfInBounds_toArray, List.set_cons_zero, List.set_cons_succ]
  refine wpAnyH_take (i := 5) (v := ?_) rfl (by kernel_rfl) (by kernel_rfl) (by kernel_rfl) (fun _ _ _ h => h) (Or.inl ⟨by rfl, ?_⟩) (by assumption) ?_
  rotate_left 1
  · (intro w hSw; (try dsimp only at hSw); go_simp; all_goals with_reducible rfl)
  try simp only [Act.put, List.setIfInBounds_toArray, List.set_cons_zero, List.set_cons_succ]
  refine wpAnyH_take (i := 6) (v := ?_) rfl (by kernel_rfl) (by kernel_rfl) (by kernel_rfl) (fun _ _ _ h => h) (Or.inl ⟨by rfl, ?_⟩) (by assumption) ?_
  rotate_left 1
  · (intro w hSw; (try dsimp only at hSw); go_simp; all_goals with_reducible rfl)
  try simp only [Act.put, List.setIfInBounds_toArray, List.set_cons_zero, List.set_cons_succ]
  refine wpAnyH_take (i := 7) (v := ?_) rfl (by kernel_rfl) (by kernel_rfl) (by kernel_rfl) (fun _ _ _ h => h) (Or.inl ⟨by rfl, ?_⟩) (by assumption) ?_
  rotate_left 1
  · (intro w hSw; (try dsimp only at hSw); go_simp; all_goals with_reducible rfl)
  try simp only [Act.put, List.setIfInBounds_toArray, List.set_cons_zero, List.set_cons_succ]
  refine wpAnyH_take (i := 8) (v := ?_) rfl (by kernel_rfl) (by kernel_rfl) (by kernel_rfl) (fun _ _ _ h => h) (Or.inl ⟨by rfl, ?_⟩) (by assumption) ?_
  rotate_left 1
  · (intro w hSw; (try dsimp only at hSw); go_simp; all_goals with_reducible rfl)
  try simp only [Act.put, List.setIfInBounds_toArray, List.set_cons_zero, List.set_cons_succ]
  refine wpAnyH_take (i := 9) (v := ?_) rfl (by kernel_rfl) (by kernel_rfl) (by kernel_rfl) (fun _ _ _ h => h) (Or.inl ⟨by rfl, ?_⟩) (by assumption) ?_
  rotate_left 1
  · (intro w hSw; (try dsimp only at hSw); go_simp; all_goals with_reducible rfl)
  try simp only [Act.put, List.setIfInBounds_toArray, List.set_cons_zero, List.set_cons_succ]
  refine wpAnyH_take (i := 10) (v := ?_) rfl (by kernel_rfl) (by kernel_rfl) (by kernel_rfl) (fun _ _ _ h => h) (Or.inl ⟨by rfl, ?_⟩) (by assumption) ?_
  rotate_left 1
  · (intro w hSw; (try dsimp only at hSw); go_simp; all_goals with_reducible rfl)
  try simp only [Act.put, List.setIfInBounds_toArray, List.set_cons_zero, List.set_cons_succ]
  refine wpAnyH_done (by kernel_rfl) ?_ _
  show wpList _ _ _ _ _ _
  clear hHeld S1
  clear c4' dx' dy'
  have hV0 := FV.out 1
  have hC0 := FC.out 1
  change UN Y.drew b3 b4 lb wb N cl cw lf wf at hV0
  change But (fun g => g = lb ∨ g = wb) w Y.drew at hC0
  have q3' : Y.drew.cell? ⟨b3, 0, none⟩ = some (.slice (some ⟨lb, 0, none⟩) N cl) := hV0.c3
  have hV := Lib.hid hV0
  have hC := Lib.hid hC0
  rw [hP.out]
  clear hV0 hC0 FV FC m1 m2 m3 hP
  generalize Y.drew = Z at *
  by_cases hz : st = gs ∧ P = -1
  · obtain ⟨hz1, hz2⟩ := hz
    have hacv : Hid (Pl.across lf wf x y e = 0) := Lib.hid (by rw [hac.out, if_pos ⟨hz1, hz2⟩])
    have z1 : ((st : Int) == (gs : Int)) = true := by rw [hz1]; simp
    have z2 : (P == -1) = true := by rw [hz2]; rfl
    clear hac hz1 hz2
    go_wp2
    go_loopw [51] (fun iv wr => ∃ k : Nat, k ≤ N ∧ iv = .int .i64 (k : Int) ∧ Hid (UN wr b3 b4 lb wb N cl cw (fun c => if c < k then Pl.unL lf x y c else lf c) (fun c => if c < k then Pl.unW lf wf x y e c else wf c)) ∧ Hid (But (fun g => g = lb ∨ g = wb) w wr)) (fun iv _ => N - (RowKit.intOf iv).toNat)
    case atStart => exact ⟨0, Nat.zero_le _, rfl, Lib.hid (hV.out.congr (fun k _ => by simp) (fun k _ => by simp)), hC⟩
    case round =>
      clear hV hC
      obtain ⟨k, hk, rfl, hV, hC⟩ := hrel
      by_cases hlt : k < N
      · have i5 : (k : Int) < (N : Int) := by omega
        have i6 : (0 : Int) ≤ (k : Int) := by omega
        have q3 := hV.out.c3
        have q4 := hV.out.c4
        obtain ⟨ql, qlf⟩ := hV.out.l k hlt
        obtain ⟨qw, qwf⟩ := hV.out.w k hlt
        simp only [Nat.lt_irrefl, if_false] at ql qw
        have eL : Hid (Pl.unL lf x y k = if lf k = gs then st else lf k) := Lib.hid (by unfold Pl.unL; rw [hgo.out, hst.out])
        have eW : Hid (Pl.unW lf wf x y e k = if lf k = gs then wf k * 0 else if lf k = st then wf k * (0 * 0) else wf k) := Lib.hid (by unfold Pl.unW; rw [hgo.out, hst.out, hacv.out])
        have jk := hw.out k hlt
        obtain ⟨uk, huk⟩ : ∃ u, lf k = u := ⟨_, rfl⟩
        obtain ⟨vk, hvk⟩ : ∃ v, wf k = v := ⟨_, rfl⟩
        rw [huk] at ql eL eW
        rw [hvk] at qw eW jk
        have jac : (0 : Int) = 1 ∨ (0 : Int) = -1 ∨ (0 : Int) = 0 := by omega
        have w1 := wrap_bd (tri_bd (Pl.tri_mul jk jac))
        have w2 := wrap_bd (tri_bd (Pl.tri_mul jac jac))
        have w3 := wrap_bd (tri_bd (Pl.tri_mul jk (Pl.tri_mul jac jac)))
        clear jac jk
        by_cases hg : uk = gs
        · subst hg
          rw [if_pos rfl] at eL eW
          have hn := Lib.hid (((hV.out.setL ne k st).setW ne k 0).congr (lf' := fun c => if c < k + 1 then Pl.unL lf x y c else lf c) (wf' := fun c => if c < k + 1 then Pl.unW lf wf x y e c else wf c)
            (fun c _ => by
              by_cases e1 : c = k
              · subst e1; simp [eL.out]
              · by_cases e2 : c < k
                · simp [e1, e2, show c < k + 1 by omega]
                · simp [e1, e2, show ¬ c < k + 1 by omega])
            (fun c _ => by
              by_cases e1 : c = k
              · subst e1; simp [eW.out]
              · by_cases e2 : c < k
                · simp [e1, e2, show c < k + 1 by omega]
                · simp [e1, e2, show ¬ c < k + 1 by omega]))
          have hD := Lib.hid ((hC.out.setCell (p := ⟨lb, k, none⟩) (.inr (.inl rfl)) (.int .i64 (st : Int))).setCell (p := ⟨wb, k, none⟩) (.inr (.inr rfl)) (.int .i64 0))
          have z4 : (wr.setCell ⟨lb, k, none⟩ (.int .i64 (st : Int))).cell? ⟨b4, 0, none⟩ = some (.slice (some ⟨wb, 0, none⟩) N cw) := (hV.out.setL ne k st).c4
          have zw : (wr.setCell ⟨lb, k, none⟩ (.int .i64 (st : Int))).cell? ⟨wb, k, none⟩ = some (.int .i64 vk) := by rw [← hvk]; have h := ((hV.out.setL ne k st).w k hlt).1; simpa using h
          have zf : (wr.setCell ⟨lb, k, none⟩ (.int .i64 (st : Int))).frozen? ⟨wb, k, none⟩ = false := ((hV.out.setL ne k st).w k hlt).2
          clear hV hC eL eW huk hvk
          go_wp2
          go_roundw
          case rel => exact ⟨k + 1, by omega, by go_num, hn, hD⟩
          case measure => first | (simp [RowKit.intOf]; done) | (simp [RowKit.intOf]; omega) | omega
        · have ng : ((uk : Int) == (gs : Int)) = false := by rw [beq_eq_false_iff_ne]; omega
          rw [if_neg hg] at eL eW
          by_cases hs : uk = st
          · subst hs
            rw [if_pos rfl] at eW
            have hn := Lib.hid ((hV.out.setW ne k 0).congr (lf' := fun c => if c < k + 1 then Pl.unL lf x y c else lf c) (wf' := fun c => if c < k + 1 then Pl.unW lf wf x y e c else wf c)
              (fun c _ => by
                by_cases e1 : c = k
                · subst e1; simp [eL.out, huk]
                · by_cases e2 : c < k
                  · simp [e2, show c < k + 1 by omega]
                  · simp [e2, show ¬ c < k + 1 by omega])
              (fun c _ => by
                by_cases e1 : c = k
                · subst e1; simp [eW.out]
                · by_cases e2 : c < k
                  · simp [e1, e2, show c < k + 1 by omega]
                  · simp [e1, e2, show ¬ c < k + 1 by omega]))
            have hD := Lib.hid (hC.out.setCell (p := ⟨wb, k, none⟩) (.inr (.inr rfl)) (.int .i64 0))
            clear hV hC eL eW huk hvk
            go_wp2
            go_roundw
            case rel => exact ⟨k + 1, by omega, by go_num, hn, hD⟩
            case measure => first | (simp [RowKit.intOf]; done) | (simp [RowKit.intOf]; omega) | omega
          · have ns : ((uk : Int) == (st : Int)) = false := by rw [beq_eq_false_iff_ne]; omega
            rw [if_neg hs] at eW
            have hn := Lib.hid (hV.out.congr (lf' := fun c => if c < k + 1 then Pl.unL lf x y c else lf c) (wf' := fun c => if c < k + 1 then Pl.unW lf wf x y e c else wf c)
              (fun c _ => by
                by_cases e1 : c = k
                · subst e1; simp [eL.out, huk]
                · by_cases e2 : c < k
                  · simp [e2, show c < k + 1 by omega]
                  · simp [e2, show ¬ c < k + 1 by omega])
              (fun c _ => by
                by_cases e1 : c = k
                · subst e1; simp [eW.out, hvk]
                · by_cases e2 : c < k
                  · simp [e2, show c < k + 1 by omega]
                  · simp [e2, show ¬ c < k + 1 by omega]))
            clear hV eL eW huk hvk
            go_wp2
            go_roundw
            case rel => exact ⟨k + 1, by omega, by go_num, hn, hC⟩
            case measure => first | (simp [RowKit.intOf]; done) | (simp [RowKit.intOf]; omega) | omega
      · obtain rfl : k = N := by omega
        have i5 : ¬ (k : Int) < (k : Int) := by omega
        have hn := Lib.hid (hV.out.congr (lf' := Pl.unL lf x y) (wf' := Pl.unW lf wf x y e) (fun c hc => by simp [hc]) (fun c hc => by simp [hc]))
        clear hV
        go_wp2
        refine bodyPost_end (v := .tuple #[]) (by simp [results, Tryd.results68, go_sem]) rfl ?_
        exact ⟨rfl, hn, hC⟩
  · have hacv : Hid (Pl.across lf wf x y e = P) := Lib.hid (by rw [hac.out, if_neg hz])
    clear hac
    have hz3 : ¬ st = gs ∨ (st = gs ∧ ¬ P = -1) := by
      by_cases h : st = gs
      · exact .inr ⟨h, fun h2 => hz ⟨h, h2⟩⟩
      · exact .inl h
    clear hz
    rcases hz3 with z1 | ⟨z1, z2⟩
    · have z3 : ((st : Int) == (gs : Int)) = false := by rw [beq_eq_false_iff_ne]; omega
      go_wp2
      go_loopw [51] (fun iv wr => ∃ k : Nat, k ≤ N ∧ iv = .int .i64 (k : Int) ∧ Hid (UN wr b3 b4 lb wb N cl cw (fun c => if c < k then Pl.unL lf x y c else lf c) (fun c => if c < k then Pl.unW lf wf x y e c else wf c)) ∧ Hid (But (fun g => g = lb ∨ g = wb) w wr)) (fun iv _ => N - (RowKit.intOf iv).toNat)
      case atStart => exact ⟨0, Nat.zero_le _, rfl, Lib.hid (hV.out.congr (fun k _ => by simp) (fun k _ => by simp)), hC⟩
      case round =>
        clear hV hC
        obtain ⟨k, hk, rfl, hV, hC⟩ := hrel
        by_cases hlt : k < N
        · have i5 : (k : Int) < (N : Int) := by omega
          have i6 : (0 : Int) ≤ (k : Int) := by omega
          have q3 := hV.out.c3
          have q4 := hV.out.c4
          obtain ⟨ql, qlf⟩ := hV.out.l k hlt
          obtain ⟨qw, qwf⟩ := hV.out.w k hlt
          simp only [Nat.lt_irrefl, if_false] at ql qw
          have eL : Hid (Pl.unL lf x y k = if lf k = gs then st else lf k) := Lib.hid (by unfold Pl.unL; rw [hgo.out, hst.out])
          have eW : Hid (Pl.unW lf wf x y e k = if lf k = gs then wf k * P else if lf k = st then wf k * (P * P) else wf k) := Lib.hid (by unfold Pl.unW; rw [hgo.out, hst.out, hacv.out])
          have jk := hw.out k hlt
          obtain ⟨uk, huk⟩ : ∃ u, lf k = u := ⟨_, rfl⟩
          obtain ⟨vk, hvk⟩ : ∃ v, wf k = v := ⟨_, rfl⟩
          rw [huk] at ql eL eW
          rw [hvk] at qw eW jk
          have jac : (P : Int) = 1 ∨ (P : Int) = -1 ∨ (P : Int) = 0 := jP
          have w1 := wrap_bd (tri_bd (Pl.tri_mul jk jac))
          have w2 := wrap_bd (tri_bd (Pl.tri_mul jac jac))
          have w3 := wrap_bd (tri_bd (Pl.tri_mul jk (Pl.tri_mul jac jac)))
          clear jac jk
          by_cases hg : uk = gs
          · subst hg
            rw [if_pos rfl] at eL eW
            have hn := Lib.hid (((hV.out.setL ne k st).setW ne k (vk * P)).congr (lf' := fun c => if c < k + 1 then Pl.unL lf x y c else lf c) (wf' := fun c => if c < k + 1 then Pl.unW lf wf x y e c else wf c)
              (fun c _ => by
                by_cases e1 : c = k
                · subst e1; simp [eL.out]
                · by_cases e2 : c < k
                  · simp [e1, e2, show c < k + 1 by omega]
                  · simp [e1, e2, show ¬ c < k + 1 by omega])
              (fun c _ => by
                by_cases e1 : c = k
                · subst e1; simp [eW.out]
                · by_cases e2 : c < k
                  · simp [e1, e2, show c < k + 1 by omega]
                  · simp [e1, e2, show ¬ c < k + 1 by omega]))
            have hD := Lib.hid ((hC.out.setCell (p := ⟨lb, k, none⟩) (.inr (.inl rfl)) (.int .i64 (st : Int))).setCell (p := ⟨wb, k, none⟩) (.inr (.inr rfl)) (.int .i64 (vk * P)))
            have z4 : (wr.setCell ⟨lb, k, none⟩ (.int .i64 (st : Int))).cell? ⟨b4, 0, none⟩ = some (.slice (some ⟨wb, 0, none⟩) N cw) := (hV.out.setL ne k st).c4
            have zw : (wr.setCell ⟨lb, k, none⟩ (.int .i64 (st : Int))).cell? ⟨wb, k, none⟩ = some (.int .i64 vk) := by rw [← hvk]; have h := ((hV.out.setL ne k st).w k hlt).1; simpa using h
            have zf : (wr.setCell ⟨lb, k, none⟩ (.int .i64 (st : Int))).frozen? ⟨wb, k, none⟩ = false := ((hV.out.setL ne k st).w k hlt).2
            clear hV hC eL eW huk hvk
            go_wp2
            go_roundw
            case rel => exact ⟨k + 1, by omega, by go_num, hn, hD⟩
            case measure => first | (simp [RowKit.intOf]; done) | (simp [RowKit.intOf]; omega) | omega
          · have ng : ((uk : Int) == (gs : Int)) = false := by rw [beq_eq_false_iff_ne]; omega
            rw [if_neg hg] at eL eW
            by_cases hs : uk = st
            · subst hs
              rw [if_pos rfl] at eW
              have hn := Lib.hid ((hV.out.setW ne k (vk * (P * P))).congr (lf' := fun c => if c < k + 1 then Pl.unL lf x y c else lf c) (wf' := fun c => if c < k + 1 then Pl.unW lf wf x y e c else wf c)
                (fun c _ => by
                  by_cases e1 : c = k
                  · subst e1; simp [eL.out, huk]
                  · by_cases e2 : c < k
                    · simp [e2, show c < k + 1 by omega]
                    · simp [e2, show ¬ c < k + 1 by omega])
                (fun c _ => by
                  by_cases e1 : c = k
                  · subst e1; simp [eW.out]
                  · by_cases e2 : c < k
                    · simp [e1, e2, show c < k + 1 by omega]
                    · simp [e1, e2, show ¬ c < k + 1 by omega]))
              have hD := Lib.hid (hC.out.setCell (p := ⟨wb, k, none⟩) (.inr (.inr rfl)) (.int .i64 (vk * (P * P))))
              clear hV hC eL eW huk hvk
              go_wp2
              go_roundw
              case rel => exact ⟨k + 1, by omega, by go_num, hn, hD⟩
              case measure => first | (simp [RowKit.intOf]; done) | (simp [RowKit.intOf]; omega) | omega
            · have ns : ((uk : Int) == (st : Int)) = false := by rw [beq_eq_false_iff_ne]; omega
              rw [if_neg hs] at eW
              have hn := Lib.hid (hV.out.congr (lf' := fun c => if c < k + 1 then Pl.unL lf x y c else lf c) (wf' := fun c => if c < k + 1 then Pl.unW lf wf x y e c else wf c)
                (fun c _ => by
                  by_cases e1 : c = k
                  · subst e1; simp [eL.out, huk]
                  · by_cases e2 : c < k
                    · simp [e2, show c < k + 1 by omega]
                    · simp [e2, show ¬ c < k + 1 by omega])
                (fun c _ => by
                  by_cases e1 : c = k
                  · subst e1; simp [eW.out, hvk]
                  · by_cases e2 : c < k
                    · simp [e2, show c < k + 1 by omega]
                    · simp [e2, show ¬ c < k + 1 by omega]))
              clear hV eL eW huk hvk
              go_wp2
              go_roundw
              case rel => exact ⟨k + 1, by omega, by go_num, hn, hC⟩
              case measure => first | (simp [RowKit.intOf]; done) | (simp [RowKit.intOf]; omega) | omega
        · obtain rfl : k = N := by omega
          have i5 : ¬ (k : Int) < (k : Int) := by omega
          have hn := Lib.hid (hV.out.congr (lf' := Pl.unL lf x y) (wf' := Pl.unW lf wf x y e) (fun c hc => by simp [hc]) (fun c hc => by simp [hc]))
          clear hV
          go_wp2
          refine bodyPost_end (v := .tuple #[]) (by simp [results, Tryd.results68, go_sem]) rfl ?_
          exact ⟨rfl, hn, hC⟩
    · have z3 : ((st : Int) == (gs : Int)) = true := by rw [z1]; simp
      have z4 : (P == -1) = false := by rw [beq_eq_false_iff_ne]; exact z2
      clear z1 z2
      go_wp2
      go_loopw [51] (fun iv wr => ∃ k : Nat, k ≤ N ∧ iv = .int .i64 (k : Int) ∧ Hid (UN wr b3 b4 lb wb N cl cw (fun c => if c < k then Pl.unL lf x y c else lf c) (fun c => if c < k then Pl.unW lf wf x y e c else wf c)) ∧ Hid (But (fun g => g = lb ∨ g = wb) w wr)) (fun iv _ => N - (RowKit.intOf iv).toNat)
      case atStart => exact ⟨0, Nat.zero_le _, rfl, Lib.hid (hV.out.congr (fun k _ => by simp) (fun k _ => by simp)), hC⟩
      case round =>
        clear hV hC
        obtain ⟨k, hk, rfl, hV, hC⟩ := hrel
        by_cases hlt : k < N
        · have i5 : (k : Int) < (N : Int) := by omega
          have i6 : (0 : Int) ≤ (k : Int) := by omega
          have q3 := hV.out.c3
          have q4 := hV.out.c4
          obtain ⟨ql, qlf⟩ := hV.out.l k hlt
          obtain ⟨qw, qwf⟩ := hV.out.w k hlt
          simp only [Nat.lt_irrefl, if_false] at ql qw
          have eL : Hid (Pl.unL lf x y k = if lf k = gs then st else lf k) := Lib.hid (by unfold Pl.unL; rw [hgo.out, hst.out])
          have eW : Hid (Pl.unW lf wf x y e k = if lf k = gs then wf k * P else if lf k = st then wf k * (P * P) else wf k) := Lib.hid (by unfold Pl.unW; rw [hgo.out, hst.out, hacv.out])
          have jk := hw.out k hlt
          obtain ⟨uk, huk⟩ : ∃ u, lf k = u := ⟨_, rfl⟩
          obtain ⟨vk, hvk⟩ : ∃ v, wf k = v := ⟨_, rfl⟩
          rw [huk] at ql eL eW
          rw [hvk] at qw eW jk
          have jac : (P : Int) = 1 ∨ (P : Int) = -1 ∨ (P : Int) = 0 := jP
          have w1 := wrap_bd (tri_bd (Pl.tri_mul jk jac))
          have w2 := wrap_bd (tri_bd (Pl.tri_mul jac jac))
          have w3 := wrap_bd (tri_bd (Pl.tri_mul jk (Pl.tri_mul jac jac)))
          clear jac jk
          by_cases hg : uk = gs
          · subst hg
            rw [if_pos rfl] at eL eW
            have hn := Lib.hid (((hV.out.setL ne k st).setW ne k (vk * P)).congr (lf' := fun c => if c < k + 1 then Pl.unL lf x y c else lf c) (wf' := fun c => if c < k + 1 then Pl.unW lf wf x y e c else wf c)
              (fun c _ => by
                by_cases e1 : c = k
                · subst e1; simp [eL.out]
                · by_cases e2 : c < k
                  · simp [e1, e2, show c < k + 1 by omega]
                  · simp [e1, e2, show ¬ c < k + 1 by omega])
              (fun c _ => by
                by_cases e1 : c = k
                · subst e1; simp [eW.out]
                · by_cases e2 : c < k
                  · simp [e1, e2, show c < k + 1 by omega]
                  · simp [e1, e2, show ¬ c < k + 1 by omega]))
            have hD := Lib.hid ((hC.out.setCell (p := ⟨lb, k, none⟩) (.inr (.inl rfl)) (.int .i64 (st : Int))).setCell (p := ⟨wb, k, none⟩) (.inr (.inr rfl)) (.int .i64 (vk * P)))
            have z4 : (wr.setCell ⟨lb, k, none⟩ (.int .i64 (st : Int))).cell? ⟨b4, 0, none⟩ = some (.slice (some ⟨wb, 0, none⟩) N cw) := (hV.out.setL ne k st).c4
            have zw : (wr.setCell ⟨lb, k, none⟩ (.int .i64 (st : Int))).cell? ⟨wb, k, none⟩ = some (.int .i64 vk) := by rw [← hvk]; have h := ((hV.out.setL ne k st).w k hlt).1; simpa using h
            have zf : (wr.setCell ⟨lb, k, none⟩ (.int .i64 (st : Int))).frozen? ⟨wb, k, none⟩ = false := ((hV.out.setL ne k st).w k hlt).2
            clear hV hC eL eW huk hvk
            go_wp2
            go_roundw
            case rel => exact ⟨k + 1, by omega, by go_num, hn, hD⟩
            case measure => first | (simp [RowKit.intOf]; done) | (simp [RowKit.intOf]; omega) | omega
          · have ng : ((uk : Int) == (gs : Int)) = false := by rw [beq_eq_false_iff_ne]; omega
            rw [if_neg hg] at eL eW
            by_cases hs : uk = st
            · subst hs
              rw [if_pos rfl] at eW
              have hn := Lib.hid ((hV.out.setW ne k (vk * (P * P))).congr (lf' := fun c => if c < k + 1 then Pl.unL lf x y c else lf c) (wf' := fun c => if c < k + 1 then Pl.unW lf wf x y e c else wf c)
                (fun c _ => by
                  by_cases e1 : c = k
                  · subst e1; simp [eL.out, huk]
                  · by_cases e2 : c < k
                    · simp [e2, show c < k + 1 by omega]
                    · simp [e2, show ¬ c < k + 1 by omega])
                (fun c _ => by
                  by_cases e1 : c = k
                  · subst e1; simp [eW.out]
                  · by_cases e2 : c < k
                    · simp [e1, e2, show c < k + 1 by omega]
                    · simp [e1, e2, show ¬ c < k + 1 by omega]))
              have hD := Lib.hid (hC.out.setCell (p := ⟨wb, k, none⟩) (.inr (.inr rfl)) (.int .i64 (vk * (P * P))))
              clear hV hC eL eW huk hvk
              go_wp2
              go_roundw
              case rel => exact ⟨k + 1, by omega, by go_num, hn, hD⟩
              case measure => first | (simp [RowKit.intOf]; done) | (simp [RowKit.intOf]; omega) | omega
            · have ns : ((uk : Int) == (st : Int)) = false := by rw [beq_eq_false_iff_ne]; omega
              rw [if_neg hs] at eW
              have hn := Lib.hid (hV.out.congr (lf' := fun c => if c < k + 1 then Pl.unL lf x y c else lf c) (wf' := fun c => if c < k + 1 then Pl.unW lf wf x y e c else wf c)
                (fun c _ => by
                  by_cases e1 : c = k
                  · subst e1; simp [eL.out, huk]
                  · by_cases e2 : c < k
                    · simp [e2, show c < k + 1 by omega]
                    · simp [e2, show ¬ c < k + 1 by omega])
                (fun c _ => by
                  by_cases e1 : c = k
                  · subst e1; simp [eW.out, hvk]
                  · by_cases e2 : c < k
                    · simp [e2, show c < k + 1 by omega]
                    · simp [e2, show ¬ c < k + 1 by omega]))
              clear hV eL eW huk hvk
              go_wp2
              go_roundw
              case rel => exact ⟨k + 1, by omega, by go_num, hn, hC⟩
              case measure => first | (simp [RowKit.intOf]; done) | (simp [RowKit.intOf]; omega) | omega
        · obtain rfl : k = N := by omega
          have i5 : ¬ (k : Int) < (k : Int) := by omega
          have hn := Lib.hid (hV.out.congr (lf' := Pl.unL lf x y) (wf' := Pl.unW lf wf x y e) (fun c hc => by simp [hc]) (fun c hc => by simp [hc]))
          clear hV
          go_wp2
          refine bodyPost_end (v := .tuple #[]) (by simp [results, Tryd.results68, go_sem]) rfl ?_
          exact ⟨rfl, hn, hC⟩
end Go.Proofs.YtmkjmpkicmadcaaDoor

/- Contracts of package plate: evenClasses. -/
namespace Pl
theorem evs_succ (l : Nat → Nat) (w : Nat → Int) (k : Nat) : evs (k + 1) l w = if l k = k ∧ w k ≠ 0 then evs k l w ++ [k] else evs k l w := by
  unfold evs
  rw [List.range_succ, List.filter_append, List.filter_cons]
  by_cases h : l k = k ∧ w k ≠ 0
  · rw [if_pos h]; simp [h]
  · rw [if_neg h, if_neg (by simpa using h)]; simp
end Pl
namespace Go.Proofs.YtmkjmpkicmadcaaDoor
open Go.RowKit
theorem infoI64 : (Tryd.prog.info? 3).map (fun i => (i.zero, i.size, i.bytes)) = some (some (.int .i64 0), 1, 8) := by kernel_rfl
def nV (n : Nat) : Value := .int .i64 (n : Int)
theorem RowF.below {W W' : World} {b N : Nat} {f : Nat → Int} (h : RowF W b N f) (hb : Below W.heap.size W W') : RowF W' b N f := fun k hk => by
  obtain ⟨h1, h2⟩ := h k hk
  exact ⟨kept1 h1 hb, (hb.frozen (p := ⟨b, k, none⟩) (block_lt_of_cell h1)).trans h2⟩

theorem ownFar {W : World} {base n size : Nat} {e : TypeId} {v : Value} {xs : List Value} (h : W.ownsRow base e size v n xs) {g : Nat} (hg : v.ownBlock = some g) : base ≤ g := by
  rcases h.2 with ⟨hv, _⟩ | ⟨g', cap, cur, hv, hb, _⟩
  · rw [hv] at hg; cases hg
  · rw [hv] at hg
    obtain rfl : g' = g := by cases hg; rfl
    exact hb

set_option maxRecDepth 100000 in
set_option maxHeartbeats 4000000 in
theorem evenClasses_any (lb wb N cl cw : Nat) (lf : Nat → Nat) (wf : Nat → Int) (hN : N ≤ 36) (w : World) (hl : Hid (RowF w lb N fun k => (lf k : Int))) (hw : Hid (RowF w wb N wf)) :
    Calls Tryd.prog 53 #[.slice (some ⟨lb, 0, none⟩) N cl, .slice (some ⟨wb, 0, none⟩) N cw] w fun e w' => ∃ v, e = .returned v ∧ Hid (w'.ownsRow w.heap.size 3 1 v (Pl.evs N lf wf).length ((Pl.evs N lf wf).map nV)) ∧ Below w.heap.size w w' := by
  obtain ⟨i0, hi, hz0, hz1, hz2⟩ := info_parts infoI64
  go_enter Tryd.func53, Tryd.ntmps53
  go_wp2
  go_loopw [5, 10] (fun v iv wr => ∃ k : Nat, k ≤ N ∧ iv = .int .i64 (k : Int) ∧ Hid (wr.ownsRow w.heap.size 3 1 v (Pl.evs k lf wf).length ((Pl.evs k lf wf).map nV)) ∧ Below w.heap.size w wr) (fun _ iv _ => N - (RowKit.intOf iv).toNat)
  case atStart => exact ⟨0, Nat.zero_le _, rfl, Lib.hid (World.ownsRow_nil _ _ _ _), Below.refl _ _⟩
  case round =>
    obtain ⟨k, hk, rfl, ho, hb⟩ := hrel
    by_cases hlt : k < N
    · have i1 : (k : Int) < (N : Int) := by omega
      have i2 : (0 : Int) ≤ (k : Int) := by omega
      have cl1 := ((hl.out.below hb) k hlt).1
      have cw1 := ((hw.out.below hb) k hlt).1
      have hst := Pl.evs_succ lf wf k
      have hle : (Pl.evs k lf wf).length ≤ k := by unfold Pl.evs; refine Nat.le_trans (List.length_filter_le _ _) ?_; simp
      obtain ⟨a, ha⟩ : ∃ a, lf k = a := ⟨_, rfl⟩
      obtain ⟨b, hb2⟩ : ∃ b, wf k = b := ⟨_, rfl⟩
      rw [ha] at cl1 hst
      rw [hb2] at cw1 hst
      clear ha hb2
      have hsz := hb.size
      by_cases h1 : a = k
      · have n1 : ((a : Int) == (k : Int)) = true := by rw [h1]; simp
        by_cases h2 : b = 0
        · have n2 : (b != 0) = false := by simp [h2]
          rw [if_neg (fun h => h.2 h2)] at hst
          replace hst := Lib.hid hst
          subst h2
          go_wp2
          go_roundw
          case rel => exact ⟨k + 1, by omega, by go_num, Lib.hid (by rw [hst.out]; exact ho.out), hb⟩
          case measure => first | (simp [RowKit.intOf]; done) | (simp [RowKit.intOf]; omega) | omega
        · have n2 : (b != 0) = true := by simpa using h2
          rw [if_pos ⟨h1, h2⟩] at hst
          replace hst := Lib.hid hst
          have hown := ho.out
          clear ho
          go_wp2_with (first
            | (at_builtin; refine wpList_append_own _ rfl (.tmp 25) (.tmp 27) 35 rfl w.heap.size 3 i0 (.int .i64 0) 1 8 Tryd.underlying35 hi hz0 hz1 hz2 rfl (by decide) _ _ _ rfl (hown.alloc _) ⟨wr.heap.size, 0, none⟩ 1 1 [.int .i64 (k : Int)] rfl rfl ?c1 ?c2 ?c3 ?c4 ?c5 ?_)
            | fail)
          case c1 =>
            intro j u hj
            match j, hj with
            | 0, hj => simp at hj; subst hj; simp [Addr.add]
          case c2 => intro u hu; simp at hu; subst hu; rfl
          case c3 => unfold maxLen; omega
          case c4 => omega
          case c5 => simp; omega
          intro v' w4 hown' hgrow hnn
          have hb4 := (hb.alloc hsz (Obj.cells #[.int .i64 (k : Int)] 3)).grown hgrow (by simp; omega) (fun g hg => ownFar hown hg)
          have hn : Hid (w4.ownsRow w.heap.size 3 1 v' (Pl.evs (k + 1) lf wf).length ((Pl.evs (k + 1) lf wf).map nV)) := Lib.hid (by rw [hst.out, List.length_append, List.map_append]; exact hown')
          clear hown hown' hgrow hnn
          go_wp2
          go_roundw
          case rel => exact ⟨k + 1, by omega, by go_num, hn, hb4⟩
          case measure => first | (simp [RowKit.intOf]; done) | (simp [RowKit.intOf]; omega) | omega
      · have n1 : ((a : Int) == (k : Int)) = false := by rw [beq_eq_false_iff_ne]; omega
        rw [if_neg (fun h => h1 h.1)] at hst
        replace hst := Lib.hid hst
        go_wp2
        go_roundw
        case rel => exact ⟨k + 1, by omega, by go_num, Lib.hid (by rw [hst.out]; exact ho.out), hb⟩
        case measure => first | (simp [RowKit.intOf]; done) | (simp [RowKit.intOf]; omega) | omega
    · obtain rfl : k = N := by omega
      have i1 : ¬ (k : Int) < (k : Int) := by omega
      go_wp2
      go_ret
      exact ⟨_, rfl, ho, hb⟩
end Go.Proofs.YtmkjmpkicmadcaaDoor

/- A map from states to arrivals: what the laws of package plate need of it. -/
namespace Go.Proofs.YtmkjmpkicmadcaaDoor
open Go.RowKit Go.Maps Go.ChangeMaps

/-- a state that can be a key -/
def KS (y : Pl.St) : Prop := (0 ≤ y.p ∧ y.p < 6) ∧ y.t < 8
/-- an arrival, as a value -/
def arV (a : Pl.St × Int) : Value := .agg #[.int .i64 a.1.p, .int .i64 (a.1.t : Int), .bool a.1.m, .int .i64 a.2]
def ar0 : Pl.St × Int := (⟨0, 0, false⟩, 0)

theorem laidJn : laidOutB Tryd.prog = true := by kernel_rfl
theorem rowSt : (80 : TypeId) < Tryd.prog.types.size := of_decide_eq_true (by kernel_rfl)
theorem wideSt : (match Tryd.prog.underlying 80 with | some (.array _ _) | some (.struct _) => true | _ => false) = true := by kernel_rfl
theorem deepSt : Tryd.prog.keyTypeAt 4 80 = true := by kernel_rfl
set_option maxRecDepth 100000 in
theorem keyedSt : Keyed Tryd.prog 80 := Keyed.of_law (deep_law_laid laidJn (m := 4) (by omega) rowSt deepSt wideSt)
theorem mapTy : Tryd.prog.underlying 86 = some (.map 80 113) := by kernel_rfl
theorem keysAll : ∀ p : Fin 6, ∀ t : Fin 8, ∀ m : Bool, (keyOf Tryd.prog 80 (stV ⟨(p.val : Int), t.val, m⟩)).isSome = true := by decide +kernel
theorem key_st {y : Pl.St} (h : KS y) : ∃ l, keyOf Tryd.prog 80 (stV y) = some l := by
  obtain ⟨p, t, m⟩ := y
  obtain ⟨⟨h0, h1⟩, h2⟩ := h
  simp only at h0 h1 h2
  obtain ⟨q, rfl⟩ : ∃ q : Nat, p = q := ⟨p.toNat, by omega⟩
  exact Option.isSome_iff_exists.1 (keysAll ⟨q, by omega⟩ ⟨t, h2⟩ m)
theorem stV_inj {y z : Pl.St} (h : stV y = stV z) : y = z := by
  obtain ⟨p, t, m⟩ := y
  obtain ⟨p', t', m'⟩ := z
  simp only [stV, Value.agg.injEq, Array.mk.injEq, List.cons.injEq, Value.int.injEq, Value.bool.injEq, Int.natCast_inj, and_true, true_and] at h
  obtain ⟨rfl, rfl, rfl⟩ := h
  rfl

/-- block b is a map of at most n states with their arrivals -/
def AM (W : World) (b n : Nat) (f : Pl.St → Option (Pl.St × Int)) : Prop :=
  ∃ es clock, W.heap[b]? = some (.map es clock) ∧ es.size ≤ n ∧ (∀ e ∈ es.toList, ∃ y a, KS y ∧ e.key = stV y ∧ e.val = arV a ∧ f y = some a) ∧ ∀ y a, f y = some a → ∃ e ∈ es.toList, e.key = stV y

theorem AM.keys {es : Array MapEntry} {f : Pl.St → Option (Pl.St × Int)} (h : ∀ e ∈ es.toList, ∃ y a, KS y ∧ e.key = stV y ∧ e.val = arV a ∧ f y = some a) : ∀ e ∈ es.toList, ∃ l, keyOf Tryd.prog 80 e.key = some l := fun e he => by
  obtain ⟨y, a, hy, h1, _⟩ := h e he
  rw [h1]
  exact key_st hy

theorem AM.look {W : World} {b n : Nat} {f : Pl.St → Option (Pl.St × Int)} (h : AM W b n f) {y : Pl.St} (hy : KS y) :
    (Instr.lookup 86 (.map (some b)) (stV y) true).run Tryd.prog W = .ok (.tuple #[arV ((f y).getD ar0), .bool (f y).isSome]) W := by
  obtain ⟨es, clock, hb, _, h1, h2⟩ := h
  obtain ⟨l, hl⟩ := key_st hy
  rcases keyedSt.find W hl es.toList (AM.keys h1) with ⟨g1, g2⟩ | ⟨j, e0, g1, g2, g3⟩
  · have hn : f y = none := by
      cases hf : f y with
      | none => rfl
      | some a =>
        obtain ⟨e, he, hk⟩ := h2 y a hf
        exact (g2 e he hk).elim
    rw [hn]
    simp [Instr.lookup, run_underlying mapTy, MapKept.run_getObj_map hb, keyedSt.check W _ hl, g1, Result.andThen]
    rfl
  · obtain ⟨y', a, hy', k1, k2, k3⟩ := h1 e0 (List.mem_of_getElem? g2)
    obtain rfl := stV_inj (k1.symm.trans g3)
    rw [k3]
    simp [Instr.lookup, run_underlying mapTy, MapKept.run_getObj_map hb, keyedSt.check W _ hl, g1, k2, Result.andThen]

theorem AM.put {W : World} {b n : Nat} {f : Pl.St → Option (Pl.St × Int)} (h : AM W b n f) {y : Pl.St} (hy : KS y) (hf : f y = none) (a : Pl.St × Int) :
    ∃ W', (Instr.mapUpdate 86 (.map (some b)) (stV y) (arV a)).run Tryd.prog W = .ok () W' ∧ AM W' b (n + 1) (fun z => if z = y then some a else f z) ∧ W.mapTurned W' b := by
  obtain ⟨es, clock, hb, hs, h1, h2⟩ := h
  obtain ⟨l, hl⟩ := key_st hy
  rcases keyedSt.find W hl es.toList (AM.keys h1) with ⟨g1, g2⟩ | ⟨j, e0, g1, g2, g3⟩
  · refine ⟨setBlock W b (.map (es.push ⟨stV y, arV a, clock⟩) (clock + 1)), ?_, ⟨_, _, heap_setBlock_same hb _, by simp; omega, ?_, ?_⟩, ⟨es, clock, _, _, hb, rfl⟩⟩
    · simp [Instr.mapUpdate, run_underlying mapTy, MapKept.run_getObj_map hb, keyedSt.check W false hl, g1, MapKept.run_setObj_map _ hb, Result.andThen, setBlock]
    · intro e he
      simp only [Array.toList_push, List.mem_append, List.mem_singleton] at he
      rcases he with he | rfl
      · obtain ⟨y', a', k0, k1, k2, k3⟩ := h1 e he
        refine ⟨y', a', k0, k1, k2, ?_⟩
        have hne : y' ≠ y := fun e9 => by
          subst e9
          exact g2 e he k1
        show (if y' = y then some a else f y') = some a'
        rw [if_neg hne]
        exact k3
      · exact ⟨y, a, hy, rfl, rfl, by simp⟩
    · intro z c hz
      by_cases hzy : z = y
      · subst hzy
        exact ⟨⟨stV z, arV a, clock⟩, by simp, rfl⟩
      · simp only [if_neg hzy] at hz
        obtain ⟨e, he, hk⟩ := h2 z c hz
        exact ⟨e, by simp [he], hk⟩
  · obtain ⟨y', a', hy', k1, k2, k3⟩ := h1 e0 (List.mem_of_getElem? g2)
    obtain rfl := stV_inj (k1.symm.trans g3)
    rw [hf] at k3
    cases k3

theorem AM.kept {W W' : World} {b n : Nat} {f : Pl.St → Option (Pl.St × Int)} (h : AM W b n f) (hb : W'.heap[b]? = W.heap[b]?) : AM W' b n f := by
  obtain ⟨es, clock, h0, h1⟩ := h
  exact ⟨es, clock, hb.trans h0, h1⟩
theorem AM.lt {W : World} {b n : Nat} {f : Pl.St → Option (Pl.St × Int)} (h : AM W b n f) : b < W.heap.size := by
  obtain ⟨es, clock, h0, _⟩ := h
  exact (Array.getElem?_eq_some_iff.1 h0).1
theorem AM.below {W W' : World} {b n : Nat} {f : Pl.St → Option (Pl.St × Int)} (h : AM W b n f) (hb : Below W.heap.size W W') : AM W' b n f := h.kept (hb.block b h.lt)
theorem AM.set {W : World} {b n : Nat} {f : Pl.St → Option (Pl.St × Int)} (h : AM W b n f) (p : Addr) (hp : b ≠ p.block) (v : Value) : AM (W.setCell p v) b n f := h.kept (Below.heap_setCell W p v b hp)
theorem AM.drew {W : World} {b n : Nat} {f : Pl.St → Option (Pl.St × Int)} (h : AM W b n f) : AM W.drew b n f := h
theorem AM.congr {W : World} {b n : Nat} {f g : Pl.St → Option (Pl.St × Int)} (h : AM W b n f) (hg : ∀ y, f y = g y) : AM W b n g := by
  rw [show g = f from funext fun y => (hg y).symm]
  exact h
theorem AM.new (W : World) : AM (W.alloc (.map #[] 0)) W.heap.size 0 (fun _ => none) :=
  ⟨#[], 0, (MapKept.heap_alloc W (.map #[] 0)).1, Nat.le_refl _, fun e he => by simp at he, fun y a h => by cases h⟩
/-- a store into the map turns no block but the map's -/
theorem turned_below {W W' : World} {b B : Nat} (h : W.mapTurned W' b) (hB : B ≤ b) : Below B W W' :=
  ⟨h.grown.os, h.grown.tape, h.grown.output, h.grown.size, fun k hk => by
    obtain ⟨es, clock, es', clock', hb, rfl⟩ := h
    show (W.heap.setIfInBounds b _)[k]? = _
    rw [Array.getElem?_setIfInBounds_ne (by omega)]⟩
theorem turned_block {W W' : World} {b k : Nat} (h : W.mapTurned W' b) (hk : k ≠ b) : W'.heap[k]? = W.heap[k]? := by
  obtain ⟨es, clock, es', clock', hb, rfl⟩ := h
  show (W.heap.setIfInBounds b _)[k]? = _
  rw [Array.getElem?_setIfInBounds_ne hk.symm]
end Go.Proofs.YtmkjmpkicmadcaaDoor

/- Contracts of package plate: end, has. -/
namespace Go.Proofs.YtmkjmpkicmadcaaDoor
open Go.RowKit

/-- the states and the arrivals -/
def waV (x : Addr) (n cap mb : Nat) : Value := .agg #[.slice (some x) n cap, .map (some mb)]

set_option maxRecDepth 100000 in
set_option maxHeartbeats 4000000 in
theorem pEnd_any (x : Addr) (n cap mb : Nat) (hn : 0 < n) (p : Int) (t : Nat) (m : Bool) (w : World) (hx : w.cell? x = some (.int .i64 p)) :
    Calls Tryd.prog 77 #[waV x n cap mb, .agg #[.int .i64 (t : Int), .bool m]] w fun e w' => e = .returned (stV ⟨p, t, m⟩) ∧ Below w.heap.size w w' := by
  unfold waV stV
  have hn5 : (0 : Int) < (n : Int) := by omega
  go_enter Tryd.func77, Tryd.ntmps77
  go_upto_region 1 with fail
  have b0 : (((w.alloc (Obj.cells #[.slice (some x) n cap, .map (some mb)] 88)).alloc (Obj.cells #[.int .i64 (t : Int), .bool m] 38)).alloc (Obj.cells #[.int .i64 0, .int .i64 0, .bool false] 80)).cell? ⟨w.heap.size, 0, none⟩ = some (.slice (some x) n cap) := by simp [go_sem]
  have b1 : (((w.alloc (Obj.cells #[.slice (some x) n cap, .map (some mb)] 88)).alloc (Obj.cells #[.int .i64 (t : Int), .bool m] 38)).alloc (Obj.cells #[.int .i64 0, .int .i64 0, .bool false] 80)).cell? ⟨w.heap.size + 1, 0, none⟩ = some (.int .i64 (t : Int)) := by simp [go_sem]
  have b2 : (((w.alloc (Obj.cells #[.slice (some x) n cap, .map (some mb)] 88)).alloc (Obj.cells #[.int .i64 (t : Int), .bool m] 38)).alloc (Obj.cells #[.int .i64 0, .int .i64 0, .bool false] 80)).cell? ⟨w.heap.size + 1, 1, none⟩ = some (.bool m) := by simp [go_sem]
  have rS : SA (((w.alloc (Obj.cells #[.slice (some x) n cap, .map (some mb)] 88)).alloc (Obj.cells #[.int .i64 (t : Int), .bool m] 38)).alloc (Obj.cells #[.int .i64 0, .int .i64 0, .bool false] 80)) (w.heap.size + 1 + 1) ⟨0, 0, false⟩ := by
    have h := sa_new ((w.alloc (Obj.cells #[.slice (some x) n cap, .map (some mb)] 88)).alloc (Obj.cells #[.int .i64 (t : Int), .bool m] 38)) ⟨0, 0, false⟩
    simpa using h
  have hv : Below w.heap.size w (((w.alloc (Obj.cells #[.slice (some x) n cap, .map (some mb)] 88)).alloc (Obj.cells #[.int .i64 (t : Int), .bool m] 38)).alloc (Obj.cells #[.int .i64 0, .int .i64 0, .bool false] 80)) := below_alloc (below_alloc (below_alloc (Below.refl _ _) _) _) _
  replace hx := kept1 hx hv
  generalize ((w.alloc (Obj.cells #[.slice (some x) n cap, .map (some mb)] 88)).alloc (Obj.cells #[.int .i64 (t : Int), .bool m] 38)).alloc (Obj.cells #[.int .i64 0, .int .i64 0, .bool false] 80) = X at *
  have t0 : X.cell? ⟨w.heap.size + 1 + 1, 0, none⟩ = some (.int .i64 0) := World.rowIs.cell rS (i := 0) (by omega)
  have t1 : X.cell? ⟨w.heap.size + 1 + 1, 1, none⟩ = some (.int .i64 0) := World.rowIs.cell rS (i := 1) (by omega)
  have t2 : X.cell? ⟨w.heap.size + 1 + 1, 2, none⟩ = some (.bool false) := World.rowIs.cell rS (i := 2) (by omega)
  have z0 := World.rowIs.frozen rS 0
  have z1 := World.rowIs.frozen rS 1
  have z2 := World.rowIs.frozen rS 2
  have hS : SA (((X.setCell ⟨w.heap.size + 1 + 1, 0, none⟩ (.int .i64 p)).setCell ⟨w.heap.size + 1 + 1, 1, none⟩ (.int .i64 (t : Int))).setCell ⟨w.heap.size + 1 + 1, 2, none⟩ (.bool m)) (w.heap.size + 1 + 1) ⟨p, t, m⟩ := SA.set rS ⟨p, t, m⟩
  have hq0 : (((X.setCell ⟨w.heap.size + 1 + 1, 0, none⟩ (.int .i64 p)).setCell ⟨w.heap.size + 1 + 1, 1, none⟩ (.int .i64 (t : Int))).setCell ⟨w.heap.size + 1 + 1, 2, none⟩ (.bool m)).cell? ⟨w.heap.size + 1 + 1, 0, none⟩ = some (.int .i64 p) := World.rowIs.cell hS (i := 0) (by omega)
  have hq1 : (((X.setCell ⟨w.heap.size + 1 + 1, 0, none⟩ (.int .i64 p)).setCell ⟨w.heap.size + 1 + 1, 1, none⟩ (.int .i64 (t : Int))).setCell ⟨w.heap.size + 1 + 1, 2, none⟩ (.bool m)).cell? ⟨w.heap.size + 1 + 1, 1, none⟩ = some (.int .i64 (t : Int)) := World.rowIs.cell hS (i := 1) (by omega)
  have hq2 : (((X.setCell ⟨w.heap.size + 1 + 1, 0, none⟩ (.int .i64 p)).setCell ⟨w.heap.size + 1 + 1, 1, none⟩ (.int .i64 (t : Int))).setCell ⟨w.heap.size + 1 + 1, 2, none⟩ (.bool m)).cell? ⟨w.heap.size + 1 + 1, 2, none⟩ = some (.bool m) := World.rowIs.cell hS (i := 2) (by omega)
  have hZ : Below w.heap.size w (((X.setCell ⟨w.heap.size + 1 + 1, 0, none⟩ (.int .i64 p)).setCell ⟨w.heap.size + 1 + 1, 1, none⟩ (.int .i64 (t : Int))).setCell ⟨w.heap.size + 1 + 1, 2, none⟩ (.bool m)) := ((hv.setCell (p := ⟨w.heap.size + 1 + 1, 0, none⟩) (by show w.heap.size ≤ w.heap.size + 1 + 1; omega) _).setCell (p := ⟨w.heap.size + 1 + 1, 1, none⟩) (by show w.heap.size ≤ w.heap.size + 1 + 1; omega) _).setCell (p := ⟨w.heap.size + 1 + 1, 2, none⟩) (by show w.heap.size ≤ w.heap.size + 1 + 1; omega) _
  clear rS
  go_region
  go_wp2
  generalize ((X.setCell ⟨w.heap.size + 1 + 1, 0, none⟩ (.int .i64 p)).setCell ⟨w.heap.size + 1 + 1, 1, none⟩ (.int .i64 (t : Int))).setCell ⟨w.heap.size + 1 + 1, 2, none⟩ (.bool m) = V at *
  refine bodyPost_ret (v := .agg #[.int .i64 p, .int .i64 (t : Int), .bool m]) (by simp [results, Tryd.results77, go_sem, hq0, hq1, hq2]) rfl ?_
  exact ⟨rfl, hZ.drew⟩
end Go.Proofs.YtmkjmpkicmadcaaDoor

/- Contracts of package plate: has. -/
namespace Go.Proofs.YtmkjmpkicmadcaaDoor
open Go.RowKit

/-- what has's first region reads -/
theorem keepHas {X W W' : World} {N mb n : Nat} {x : Addr} {v0 v1 v2 v3 v4 lk : Value} {f : Pl.St → Option (Pl.St × Int)} {y : Pl.St} {key : Value} (hkey : key = stV y) (hy : KS y) (hlk : lk = .tuple #[arV ((f y).getD ar0), .bool (f y).isSome])
    (h : W.cell? ⟨N, 0, none⟩ = some v0 ∧ W.cell? ⟨N, 1, none⟩ = some v1 ∧ W.cell? ⟨N + 1, 0, none⟩ = some v2 ∧ W.cell? ⟨N + 1, 1, none⟩ = some v3 ∧ W.cell? x = some v4 ∧ (Instr.lookup 86 (.map (some mb)) key true).run Tryd.prog W = .ok lk W ∧ AM W mb n f ∧ Below X.heap.size X W) (hb : Below W.heap.size W W') :
    W'.cell? ⟨N, 0, none⟩ = some v0 ∧ W'.cell? ⟨N, 1, none⟩ = some v1 ∧ W'.cell? ⟨N + 1, 0, none⟩ = some v2 ∧ W'.cell? ⟨N + 1, 1, none⟩ = some v3 ∧ W'.cell? x = some v4 ∧ (Instr.lookup 86 (.map (some mb)) key true).run Tryd.prog W' = .ok lk W' ∧ AM W' mb n f ∧ Below X.heap.size X W' := by
  obtain ⟨h0, h1, h2, h3, h4, _, h6, h7⟩ := h
  have h6' := h6.below hb
  refine ⟨kept1 h0 hb, kept1 h1 hb, kept1 h2 hb, kept1 h3 hb, kept1 h4 hb, ?_, h6', h7.trans (hb.mono h7.size)⟩
  rw [hkey, hlk]
  exact h6'.look hy

theorem ar_kept {Y wp : World} (h : Below (Y.alloc (Obj.cells #[.int .i64 0, .int .i64 0, .bool false, .int .i64 0] 113)).heap.size (Y.alloc (Obj.cells #[.int .i64 0, .int .i64 0, .bool false, .int .i64 0] 113)) wp) :
    wp.cell? ⟨Y.heap.size, 0, none⟩ = some (.int .i64 0) ∧ wp.cell? ⟨Y.heap.size, 1, none⟩ = some (.int .i64 0) ∧ wp.cell? ⟨Y.heap.size, 2, none⟩ = some (.bool false) ∧ wp.cell? ⟨Y.heap.size, 3, none⟩ = some (.int .i64 0) ∧ (∀ i, wp.frozen? ⟨Y.heap.size, i, none⟩ = false) := by
  have r : (Y.alloc (Obj.cells #[.int .i64 0, .int .i64 0, .bool false, .int .i64 0] 113)).rowIs Y.heap.size 113 4 (fun i => if i = 2 then .bool false else .int .i64 0) := World.rowIs_alloc Y _ _ _ (fun i hi => by
    match i, hi with
    | 0, _ => rfl
    | 1, _ => rfl
    | 2, _ => rfl
    | 3, _ => rfl)
  have r' := Below.row' h r
  exact ⟨r'.cell (i := 0) (by omega), r'.cell (i := 1) (by omega), r'.cell (i := 2) (by omega), r'.cell (i := 3) (by omega), fun i => r'.frozen i⟩

theorem undrew {Z wp : World} (h : Below Z.drew.heap.size Z.drew wp) : Below Z.heap.size Z wp := ⟨h.os, h.tape, h.output, h.size, h.block⟩
theorem ar_mid {Y wp : World} {o : Obj} (h : Below (Y.alloc o).heap.size (Y.alloc o) wp) : Below Y.heap.size Y wp :=
  ((Below.refl Y.heap.size Y).alloc (Nat.le_refl _) o).trans (h.mono (by simp))
theorem ar_set {Y wp : World} {o : Obj} {a b c d : Value} (h : Below (Y.alloc o).heap.size (Y.alloc o) wp) : Below Y.heap.size Y ((((wp.setCell ⟨Y.heap.size, 0, none⟩ a).setCell ⟨Y.heap.size, 1, none⟩ b).setCell ⟨Y.heap.size, 2, none⟩ c).setCell ⟨Y.heap.size, 3, none⟩ d) :=
  ((((ar_mid h).setCell (p := ⟨Y.heap.size, 0, none⟩) (Nat.le_refl _) _).setCell (p := ⟨Y.heap.size, 1, none⟩) (Nat.le_refl _) _).setCell (p := ⟨Y.heap.size, 2, none⟩) (Nat.le_refl _) _).setCell (p := ⟨Y.heap.size, 3, none⟩) (Nat.le_refl _) _

set_option maxRecDepth 100000 in
set_option maxHeartbeats 4000000 in
theorem pHas_any (x : Addr) (n cap mb k : Nat) (hn : 0 < n) (f : Pl.St → Option (Pl.St × Int)) (p : Int) (t : Nat) (m : Bool) (hy : KS ⟨p, t, m⟩) (w : World) (hx : w.cell? x = some (.int .i64 p)) (hA : AM w mb k f) :
    Calls Tryd.prog 67 #[waV x n cap mb, .agg #[.int .i64 (t : Int), .bool m]] w fun e w' => e = .returned (.bool (f ⟨p, t, m⟩).isSome) ∧ Below w.heap.size w w' := by
  obtain ⟨fd, hfd⟩ : ∃ b, (f ⟨p, t, m⟩).isSome = b := ⟨_, rfl⟩
  obtain ⟨s0, t0, m0, k0, hv0⟩ : ∃ (s0 : Int) (t0 : Nat) (m0 : Bool) (k0 : Int), (f ⟨p, t, m⟩).getD ar0 = (⟨s0, t0, m0⟩, k0) := ⟨_, _, _, _, rfl⟩
  have hlk : Value.tuple #[.agg #[.int .i64 s0, .int .i64 (t0 : Int), .bool m0, .int .i64 k0], .bool fd] = .tuple #[arV ((f ⟨p, t, m⟩).getD ar0), .bool (f ⟨p, t, m⟩).isSome] := by
    rw [hv0, hfd]
    rfl
  rw [hfd]
  have HE := fun (W : World) (h : W.cell? x = some (.int .i64 p)) => pEnd_any x n cap mb hn p t m W h
  unfold waV stV at HE
  replace HE := Lib.hid HE
  replace hlk := Lib.hid hlk
  unfold waV
  clear hfd hv0
  go_enter Tryd.func67, Tryd.ntmps67
  go_upto_region 1 with fail
  have b0 : ((w.alloc (Obj.cells #[.slice (some x) n cap, .map (some mb)] 88)).alloc (Obj.cells #[.int .i64 (t : Int), .bool m] 38)).cell? ⟨w.heap.size, 0, none⟩ = some (.slice (some x) n cap) := by simp [go_sem]
  have b1 : ((w.alloc (Obj.cells #[.slice (some x) n cap, .map (some mb)] 88)).alloc (Obj.cells #[.int .i64 (t : Int), .bool m] 38)).cell? ⟨w.heap.size, 1, none⟩ = some (.map (some mb)) := by simp [go_sem]
  have b2 : ((w.alloc (Obj.cells #[.slice (some x) n cap, .map (some mb)] 88)).alloc (Obj.cells #[.int .i64 (t : Int), .bool m] 38)).cell? ⟨w.heap.size + 1, 0, none⟩ = some (.int .i64 (t : Int)) := by simp [go_sem]
  have b3 : ((w.alloc (Obj.cells #[.slice (some x) n cap, .map (some mb)] 88)).alloc (Obj.cells #[.int .i64 (t : Int), .bool m] 38)).cell? ⟨w.heap.size + 1, 1, none⟩ = some (.bool m) := by simp [go_sem]
  have hv : Below w.heap.size w ((w.alloc (Obj.cells #[.slice (some x) n cap, .map (some mb)] 88)).alloc (Obj.cells #[.int .i64 (t : Int), .bool m] 38)) := below_alloc (below_alloc (Below.refl _ _) _) _
  replace hx := kept1 hx hv
  have hA2 := hA.below hv
  generalize (w.alloc (Obj.cells #[.slice (some x) n cap, .map (some mb)] 88)).alloc (Obj.cells #[.int .i64 (t : Int), .bool m] 38) = X at *
  have hL0 : (Instr.lookup 86 (.map (some mb)) (.agg #[.int .i64 p, .int .i64 (t : Int), .bool m]) true).run Tryd.prog X = .ok (.tuple #[.agg #[.int .i64 s0, .int .i64 (t0 : Int), .bool m0, .int .i64 k0], .bool fd]) X := by
    rw [hlk.out]
    exact hA2.look hy
  have hL1 : (Instr.lookup 86 (.map (some mb)) (.agg #[.int .i64 p, .int .i64 (t : Int), .bool m]) true).run Tryd.prog X.drew = .ok (.tuple #[.agg #[.int .i64 s0, .int .i64 (t0 : Int), .bool m0, .int .i64 k0], .bool fd]) X.drew := by
    rw [hlk.out]
    exact hA2.drew.look hy
  go_cut [6] from 7 to 15 (fun s6 wx => s6 = .bool fd ∧ Below w.heap.size w wx)
  case first =>
    have S0 : X.drew.cell? ⟨w.heap.size, 0, none⟩ = some (.slice (some x) n cap) ∧ X.drew.cell? ⟨w.heap.size, 1, none⟩ = some (.map (some mb)) ∧ X.drew.cell? ⟨w.heap.size + 1, 0, none⟩ = some (.int .i64 (t : Int)) ∧ X.drew.cell? ⟨w.heap.size + 1, 1, none⟩ = some (.bool m) ∧ X.drew.cell? x = some (.int .i64 p) ∧ (Instr.lookup 86 (.map (some mb)) (.agg #[.int .i64 p, .int .i64 (t : Int), .bool m]) true).run Tryd.prog X.drew = .ok (.tuple #[.agg #[.int .i64 s0, .int .i64 (t0 : Int), .bool m0, .int .i64 k0], .bool fd]) X.drew ∧ AM X.drew mb k f ∧ Below X.heap.size X X.drew := ⟨b0, b1, b2, b3, hx, hL1, hA2, (Below.refl _ _).drew⟩
    have S1 : X.cell? ⟨w.heap.size, 0, none⟩ = some (.slice (some x) n cap) ∧ X.cell? ⟨w.heap.size, 1, none⟩ = some (.map (some mb)) ∧ X.cell? ⟨w.heap.size + 1, 0, none⟩ = some (.int .i64 (t : Int)) ∧ X.cell? ⟨w.heap.size + 1, 1, none⟩ = some (.bool m) ∧ X.cell? x = some (.int .i64 p) ∧ (Instr.lookup 86 (.map (some mb)) (.agg #[.int .i64 p, .int .i64 (t : Int), .bool m]) true).run Tryd.prog X = .ok (.tuple #[.agg #[.int .i64 s0, .int .i64 (t0 : Int), .bool m0, .int .i64 k0], .bool fd]) X ∧ AM X mb k f ∧ Below X.heap.size X X := ⟨b0, b1, b2, b3, hx, hL0, hA2, Below.refl _ _⟩
    have HF := Lib.hid (fun (W : World) (h : W.cell? ⟨w.heap.size, 0, none⟩ = some (.slice (some x) n cap) ∧ W.cell? ⟨w.heap.size, 1, none⟩ = some (.map (some mb)) ∧ W.cell? ⟨w.heap.size + 1, 0, none⟩ = some (.int .i64 (t : Int)) ∧ W.cell? ⟨w.heap.size + 1, 1, none⟩ = some (.bool m) ∧ W.cell? x = some (.int .i64 p) ∧ (Instr.lookup 86 (.map (some mb)) (.agg #[.int .i64 p, .int .i64 (t : Int), .bool m]) true).run Tryd.prog W = .ok (.tuple #[.agg #[.int .i64 s0, .int .i64 (t0 : Int), .bool m0, .int .i64 k0], .bool fd]) W ∧ AM W mb k f ∧ Below X.heap.size X W) => HE.out W h.2.2.2.2.1)
    clear HE
    go_region_held3 (fun w' => w'.cell? ⟨w.heap.size, 0, none⟩ = some (.slice (some x) n cap) ∧ w'.cell? ⟨w.heap.size, 1, none⟩ = some (.map (some mb)) ∧ w'.cell? ⟨w.heap.size + 1, 0, none⟩ = some (.int .i64 (t : Int)) ∧ w'.cell? ⟨w.heap.size + 1, 1, none⟩ = some (.bool m) ∧ w'.cell? x = some (.int .i64 p) ∧ (Instr.lookup 86 (.map (some mb)) (.agg #[.int .i64 p, .int .i64 (t : Int), .bool m]) true).run Tryd.prog w' = .ok (.tuple #[.agg #[.int .i64 s0, .int .i64 (t0 : Int), .bool m0, .int .i64 k0], .bool fd]) w' ∧ AM w' mb k f ∧ Below X.heap.size X w')
      (first | with_reducible exact S0 | with_reducible assumption | exact keepHas rfl hy hlk.out (by with_reducible assumption) hbp | exact keepHas rfl hy hlk.out (by with_reducible assumption) (below_alloc (Below.refl _ _) _) | exact keepHas rfl hy hlk.out S0 (below_alloc (Below.refl _ _) _) | exact keepHas rfl hy hlk.out S0 (Below.alloc hbp hbp.size _) | exact keepHas rfl hy hlk.out S0 (ar_set hbp) | exact keepHas rfl hy hlk.out S0 (ar_mid hbp) | exact keepHas rfl hy hlk.out S1 (ar_mid (undrew hbp)) | exact keepHas rfl hy hlk.out S1 (ar_set (undrew hbp)))
      (first
        | (with_reducible refine (HF.out _ (by first | with_reducible assumption | exact S0)).mono ?_
           rintro e wp ⟨he, hbp⟩
           subst he
           first
             | (have ra : wp.cell? ⟨X.heap.size, 0, none⟩ = some (.int .i64 0) ∧ wp.cell? ⟨X.heap.size, 1, none⟩ = some (.int .i64 0) ∧ wp.cell? ⟨X.heap.size, 2, none⟩ = some (.bool false) ∧ wp.cell? ⟨X.heap.size, 3, none⟩ = some (.int .i64 0) ∧ (∀ i, wp.frozen? ⟨X.heap.size, i, none⟩ = false) := ar_kept hbp
                obtain ⟨ra0, ra1, ra2, ra3, raf⟩ := ra)
             | (have ra : wp.cell? ⟨X.heap.size, 0, none⟩ = some (.int .i64 0) ∧ wp.cell? ⟨X.heap.size, 1, none⟩ = some (.int .i64 0) ∧ wp.cell? ⟨X.heap.size, 2, none⟩ = some (.bool false) ∧ wp.cell? ⟨X.heap.size, 3, none⟩ = some (.int .i64 0) ∧ (∀ i, wp.frozen? ⟨X.heap.size, i, none⟩ = false) := ar_kept (undrew hbp)
                obtain ⟨ra0, ra1, ra2, ra3, raf⟩ := ra)
             | skip))
    all_goals go_wp2_with fail
    all_goals go_meet
    all_goals refine ⟨rfl, hv.trans (Below.mono ?_ hv.size)⟩
    all_goals first
      | exact ar_set hbp
      | exact ar_set (undrew hbp)
      | exact Below.alloc hbp hbp.size _
      | exact Below.alloc (undrew hbp) hbp.size _
      | exact Below.drew (ar_set (undrew hbp))
      | exact Below.drew (Below.alloc (undrew hbp) hbp.size _)
      | trace_state
  case rest =>
    generalize wc = Y at hcut ⊢
    clear wc
    obtain ⟨rfl, HT⟩ := hcut
    go_wp2
    go_ret
    exact ⟨rfl, HT⟩
end Go.Proofs.YtmkjmpkicmadcaaDoor

/- Contracts of package plate: signs (written by tools/genJr.py). -/
namespace Pl
/-- the first k of the sixteen signs -/
def sg16 (k : Nat) : List (Nat × Bool) := (List.range k).map fun j => (j / 2, decide (j % 2 = 1))
theorem sg16_succ (k : Nat) : sg16 (k + 1) = sg16 k ++ [(k / 2, decide (k % 2 = 1))] := by
  unfold sg16
  rw [List.range_succ, List.map_append]
  rfl
/-- signs: those of the first k at which there is an arrival -/
def sgs (f : St → Option (St × Int)) (p : Int) (k : Nat) : List (Nat × Bool) := (sg16 k).filter fun g => (f ⟨p, g.1, g.2⟩).isSome
theorem sgs_succ (f : St → Option (St × Int)) (p : Int) (k : Nat) : sgs f p (k + 1) = if (f ⟨p, k / 2, decide (k % 2 = 1)⟩).isSome then sgs f p k ++ [(k / 2, decide (k % 2 = 1))] else sgs f p k := by
  unfold sgs
  rw [sg16_succ, List.filter_append]
  by_cases h : (f ⟨p, k / 2, decide (k % 2 = 1)⟩).isSome = true
  · rw [if_pos h]
    congr 1
    simp [List.filter, h]
  · rw [if_neg h]
    simp [List.filter, h]
theorem sgs_le (f : St → Option (St × Int)) (p : Int) (k : Nat) : (sgs f p k).length ≤ k := by
  unfold sgs
  refine Nat.le_trans (List.length_filter_le _ _) ?_
  unfold sg16
  simp
theorem sgs_even (f : St → Option (St × Int)) (p : Int) (t : Nat) : sgs f p (2 * t + 1) = if (f ⟨p, t, false⟩).isSome then sgs f p (2 * t) ++ [(t, false)] else sgs f p (2 * t) := by
  rw [sgs_succ, show 2 * t / 2 = t by omega, show decide (2 * t % 2 = 1) = false from decide_eq_false (by omega)]
theorem sgs_odd (f : St → Option (St × Int)) (p : Int) (t : Nat) : sgs f p (2 * t + 2) = if (f ⟨p, t, true⟩).isSome then sgs f p (2 * t + 1) ++ [(t, true)] else sgs f p (2 * t + 1) := by
  rw [show 2 * t + 2 = (2 * t + 1) + 1 from rfl, sgs_succ, show (2 * t + 1) / 2 = t by omega, show decide ((2 * t + 1) % 2 = 1) = true from decide_eq_true (by omega)]
end Pl
namespace Go.Proofs.YtmkjmpkicmadcaaDoor
open Go.RowKit

theorem infoSg : (Tryd.prog.info? 38).map (fun i => (i.zero, i.size, i.bytes)) = some (some (.agg #[.int .i64 0, .bool false]), 2, 16) := by kernel_rfl
theorem ownBelow {W W' : World} {base n size : Nat} {e : TypeId} {v : Value} {xs : List Value} (h : W.ownsRow base e size v n xs) (hb : Below W.heap.size W W') : W'.ownsRow base e size v n xs := h.kept (grown_of_below hb) (by cases hv : v.ownBlock <;> simp)
theorem ownLess {W : World} {base n size : Nat} {e : TypeId} {v : Value} {xs : List Value} (h : W.ownsRow (base + 1) e size v n xs) : W.ownsRow base e size v n xs := by
  refine ⟨h.1, ?_⟩
  rcases h.2 with hn | ⟨g, cap, cur, hv, hb, r⟩
  · exact .inl hn
  · exact .inr ⟨g, cap, cur, hv, Nat.le_of_succ_le hb, r⟩
theorem idx_b0 (W : World) : (Instr.index 115 (.agg #[.bool false, .bool true]) (.int .i64 0)).run Tryd.prog W = .ok (.bool false) W := by kernel_rfl
theorem idx_b1 (W : World) : (Instr.index 115 (.agg #[.bool false, .bool true]) (.int .i64 1)).run Tryd.prog W = .ok (.bool true) W := by kernel_rfl
def sgCells (G : List (Nat × Bool)) : List Value := G.flatMap fun g => [.int .i64 (g.1 : Int), .bool g.2]
theorem sgCells_append (L L2 : List (Nat × Bool)) : sgCells (L ++ L2) = sgCells L ++ sgCells L2 := by unfold sgCells; rw [List.flatMap_append]
theorem sgCells_one (g : Nat × Bool) : sgCells [g] = [.int .i64 (g.1 : Int), .bool g.2] := rfl

set_option maxRecDepth 100000 in
set_option maxHeartbeats 8000000 in
theorem pSignsW_any (x : Addr) (n cap mb kk : Nat) (hn : 0 < n) (f : Pl.St → Option (Pl.St × Int)) (p : Int) (hp : 0 ≤ p ∧ p < 6) (w : World) (hx : w.cell? x = some (.int .i64 p)) (hA : AM w mb kk f) :
    Calls Tryd.prog 50 #[waV x n cap mb] w fun e w' => ∃ v, e = .returned v ∧ Hid (w'.ownsRow w.heap.size 38 2 v (Pl.sgs f p 16).length (sgCells (Pl.sgs f p 16))) ∧ Below w.heap.size w w' := by
  obtain ⟨i0, hi, hz0, hz1, hz2⟩ := info_parts infoSg
  have HH := fun (t : Nat) (m : Bool) (ht : t < 8) (W : World) (hb : Below w.heap.size w W) => pHas_any x n cap mb kk hn f p t m ⟨hp, ht⟩ W (kept1 hx hb) (hA.below hb)
  unfold waV at *
  replace HH := Lib.hid HH
  clear hx hA
  go_enter Tryd.func50, Tryd.ntmps50
  go_wp2
  have b0 : (w.alloc (Obj.cells #[.slice (some x) n cap, .map (some mb)] 88)).cell? ⟨w.heap.size, 0, none⟩ = some (.slice (some x) n cap) := by simp [go_sem]
  have b1 : (w.alloc (Obj.cells #[.slice (some x) n cap, .map (some mb)] 88)).cell? ⟨w.heap.size, 1, none⟩ = some (.map (some mb)) := by simp [go_sem]
  have hbw : Below w.heap.size w (w.alloc (Obj.cells #[.slice (some x) n cap, .map (some mb)] 88)) := below_alloc (Below.refl _ _) _
  have hlt0 : w.heap.size < (w.alloc (Obj.cells #[.slice (some x) n cap, .map (some mb)] 88)).heap.size := by simp
  generalize w.alloc (Obj.cells #[.slice (some x) n cap, .map (some mb)] 88) = X at *
  go_loopw [3, 8] (fun v i wr => ∃ t : Nat, t ≤ 8 ∧ i = .int .i64 t ∧ wr.cell? ⟨w.heap.size, 0, none⟩ = some (.slice (some x) n cap) ∧ wr.cell? ⟨w.heap.size, 1, none⟩ = some (.map (some mb)) ∧ Hid (wr.ownsRow (w.heap.size + 1) 38 2 v (Pl.sgs f p (2 * t)).length (sgCells (Pl.sgs f p (2 * t)))) ∧ Below w.heap.size w wr) (fun _ i _ => 8 - (RowKit.intOf i).toNat)
  case atStart => exact ⟨0, Nat.zero_le _, rfl, b0, b1, Lib.hid (World.ownsRow_nil _ _ _ _), hbw⟩
  case round =>
    clear b0 b1 hbw hlt0
    clear X
    obtain ⟨t, ht, rfl, b0, b1, ho, hb⟩ := hrel
    by_cases hlt : t < 8
    · have i1 : (t : Int) < 8 := by omega
      go_wp2
      generalize wr = X0 at *
      clear wr
      go_loopw [3, 12] (fun v i wr => ∃ j : Nat, j ≤ 2 ∧ i = .int .i64 j ∧ wr.cell? ⟨w.heap.size, 0, none⟩ = some (.slice (some x) n cap) ∧ wr.cell? ⟨w.heap.size, 1, none⟩ = some (.map (some mb)) ∧ Hid (wr.ownsRow (w.heap.size + 1) 38 2 v (Pl.sgs f p (2 * t + j)).length (sgCells (Pl.sgs f p (2 * t + j)))) ∧ Below w.heap.size w wr) (fun _ i _ => 2 - (RowKit.intOf i).toNat)
      case atStart => exact ⟨0, Nat.zero_le _, rfl, b0, b1, ho, hb⟩
      case round =>
        clear b0 b1 hb ho
        clear X0
        obtain ⟨j, hj, rfl, b0, b1, ho, hb⟩ := hrel
        have hsz := block_lt_of_cell b0
        simp only at hsz
        have hj3 : j = 0 ∨ j = 1 ∨ j = 2 := by omega
        rcases hj3 with rfl | rfl | rfl
        · have hst := Pl.sgs_even f p t
          have hle := Pl.sgs_le f p (2 * t + 0)
          have HC := HH.out t false hlt
          have hix := idx_b0
          cases hf : (f ⟨p, t, false⟩).isSome
          · rw [hf] at HC hst
            have ho2 : Hid (_root_.Go.World.ownsRow _ (w.heap.size + 1) 38 2 _ (Pl.sgs f p (2 * t + 1)).length (sgCells (Pl.sgs f p (2 * t + 1)))) := Lib.hid (by rw [hst]; exact ho.out)
            replace HC := Lib.hid HC
            clear hst ho hf HH
            go_wp2_with fail
            refine (HC.out _ (below_alloc hb _)).mono ?_
            rintro e w2 ⟨rfl, hb2⟩
            have hbA := (below_alloc (Below.refl _ _) (Obj.cells #[.int .i64 (t : Int), .bool false] 38)).trans (hb2.mono (by simp))
            have ho3 := Lib.hid (ownBelow ho2.out hbA)
            have hbW := hb.trans (hbA.mono hb.size)
            have c0 := kept1 b0 hbA
            have c1 := kept1 b1 hbA
            clear b0 b1
            go_wp2
            go_roundw
            case rel => exact ⟨1, by omega, rfl, c0, c1, ho3, hbW⟩
            case measure => simp [RowKit.intOf]
          · rw [hf] at HC hst
            replace hst := Lib.hid hst
            replace HC := Lib.hid HC
            clear hf HH
            go_wp2_with fail
            refine (HC.out _ (below_alloc hb _)).mono ?_
            rintro e w2 ⟨rfl, hb2⟩
            have hbA := (below_alloc (Below.refl _ _) (Obj.cells #[.int .i64 (t : Int), .bool false] 38)).trans (hb2.mono (by simp))
            have hbW := hb.trans (hbA.mono hb.size)
            have c0 := kept1 b0 hbA
            have c1 := kept1 b1 hbA
            have d0 : w2.cell? ⟨wr.heap.size, 0, none⟩ = some (.int .i64 (t : Int)) := kept1 (by simp [go_sem]) hb2
            have d1 : w2.cell? ⟨wr.heap.size, 1, none⟩ = some (.bool false) := kept1 (by simp [go_sem]) hb2
            have hown := ownBelow ho.out hbA
            have hsz2 := block_lt_of_cell c0
            simp only at hsz2
            clear b0 b1 ho hb2
            go_wp2_with (first
              | (at_builtin; refine wpList_append_own _ rfl (.tmp 21) (.tmp 23) 57 rfl (w.heap.size + 1) 38 i0 (.agg #[.int .i64 0, .bool false]) 2 16 Tryd.underlying57 hi hz0 hz1 hz2 rfl (by decide) _ _ _ rfl (hown.alloc _) ⟨w2.heap.size, 0, none⟩ 1 1 [.int .i64 (t : Int), .bool false] rfl rfl ?c1 ?c2 ?c3 ?c4 ?c5 ?_)
              | fail)
            case c1 =>
              intro j u hj
              match j, hj with
              | 0, hj => simp at hj; subst hj; simp [Addr.add]
              | 1, hj => simp at hj; subst hj; simp [Addr.add]
            case c2 => intro u hu; simp at hu; rcases hu with rfl | rfl <;> rfl
            case c3 => unfold maxLen; omega
            case c4 => omega
            case c5 => simp; omega
            intro v' w4 hown' hgrow hnn
            have hbG : Below (w.heap.size + 1) w2 w4 := ((Below.refl _ w2).alloc (by omega) (Obj.cells #[.int .i64 (t : Int), .bool false] 38)).grown hgrow (by simp; omega) (fun g hg => ownFar hown hg)
            have hn : Hid (w4.ownsRow (w.heap.size + 1) 38 2 v' (Pl.sgs f p (2 * t + 1)).length (sgCells (Pl.sgs f p (2 * t + 1)))) := Lib.hid (by rw [hst.out, if_pos (by trivial), List.length_append, sgCells_append]; exact hown')
            have e0 := (hbG.cell (p := ⟨w.heap.size, 0, none⟩) (Nat.lt_succ_self _)).trans c0
            have e1 := (hbG.cell (p := ⟨w.heap.size, 1, none⟩) (Nat.lt_succ_self _)).trans c1
            have hbX := hbW.trans (hbG.mono (Nat.le_succ _))
            clear hown hown' hgrow hnn c0 c1 d0 d1
            go_wp2
            go_roundw
            case rel => exact ⟨1, by omega, rfl, e0, e1, hn, hbX⟩
            case measure => simp [RowKit.intOf]
        · have hst := Pl.sgs_odd f p t
          have hle := Pl.sgs_le f p (2 * t + 1)
          have HC := HH.out t true hlt
          have hix := idx_b1
          cases hf : (f ⟨p, t, true⟩).isSome
          · rw [hf] at HC hst
            have ho2 : Hid (_root_.Go.World.ownsRow _ (w.heap.size + 1) 38 2 _ (Pl.sgs f p (2 * t + 2)).length (sgCells (Pl.sgs f p (2 * t + 2)))) := Lib.hid (by rw [hst]; exact ho.out)
            replace HC := Lib.hid HC
            clear hst ho hf HH
            go_wp2_with fail
            refine (HC.out _ (below_alloc hb _)).mono ?_
            rintro e w2 ⟨rfl, hb2⟩
            have hbA := (below_alloc (Below.refl _ _) (Obj.cells #[.int .i64 (t : Int), .bool true] 38)).trans (hb2.mono (by simp))
            have ho3 := Lib.hid (ownBelow ho2.out hbA)
            have hbW := hb.trans (hbA.mono hb.size)
            have c0 := kept1 b0 hbA
            have c1 := kept1 b1 hbA
            clear b0 b1
            go_wp2
            go_roundw
            case rel => exact ⟨2, by omega, rfl, c0, c1, ho3, hbW⟩
            case measure => simp [RowKit.intOf]
          · rw [hf] at HC hst
            replace hst := Lib.hid hst
            replace HC := Lib.hid HC
            clear hf HH
            go_wp2_with fail
            refine (HC.out _ (below_alloc hb _)).mono ?_
            rintro e w2 ⟨rfl, hb2⟩
            have hbA := (below_alloc (Below.refl _ _) (Obj.cells #[.int .i64 (t : Int), .bool true] 38)).trans (hb2.mono (by simp))
            have hbW := hb.trans (hbA.mono hb.size)
            have c0 := kept1 b0 hbA
            have c1 := kept1 b1 hbA
            have d0 : w2.cell? ⟨wr.heap.size, 0, none⟩ = some (.int .i64 (t : Int)) := kept1 (by simp [go_sem]) hb2
            have d1 : w2.cell? ⟨wr.heap.size, 1, none⟩ = some (.bool true) := kept1 (by simp [go_sem]) hb2
            have hown := ownBelow ho.out hbA
            have hsz2 := block_lt_of_cell c0
            simp only at hsz2
            clear b0 b1 ho hb2
            go_wp2_with (first
              | (at_builtin; refine wpList_append_own _ rfl (.tmp 21) (.tmp 23) 57 rfl (w.heap.size + 1) 38 i0 (.agg #[.int .i64 0, .bool false]) 2 16 Tryd.underlying57 hi hz0 hz1 hz2 rfl (by decide) _ _ _ rfl (hown.alloc _) ⟨w2.heap.size, 0, none⟩ 1 1 [.int .i64 (t : Int), .bool true] rfl rfl ?c1 ?c2 ?c3 ?c4 ?c5 ?_)
              | fail)
            case c1 =>
              intro j u hj
              match j, hj with
              | 0, hj => simp at hj; subst hj; simp [Addr.add]
              | 1, hj => simp at hj; subst hj; simp [Addr.add]
            case c2 => intro u hu; simp at hu; rcases hu with rfl | rfl <;> rfl
            case c3 => unfold maxLen; omega
            case c4 => omega
            case c5 => simp; omega
            intro v' w4 hown' hgrow hnn
            have hbG : Below (w.heap.size + 1) w2 w4 := ((Below.refl _ w2).alloc (by omega) (Obj.cells #[.int .i64 (t : Int), .bool true] 38)).grown hgrow (by simp; omega) (fun g hg => ownFar hown hg)
            have hn : Hid (w4.ownsRow (w.heap.size + 1) 38 2 v' (Pl.sgs f p (2 * t + 2)).length (sgCells (Pl.sgs f p (2 * t + 2)))) := Lib.hid (by rw [hst.out, if_pos (by trivial), List.length_append, sgCells_append]; exact hown')
            have e0 := (hbG.cell (p := ⟨w.heap.size, 0, none⟩) (Nat.lt_succ_self _)).trans c0
            have e1 := (hbG.cell (p := ⟨w.heap.size, 1, none⟩) (Nat.lt_succ_self _)).trans c1
            have hbX := hbW.trans (hbG.mono (Nat.le_succ _))
            clear hown hown' hgrow hnn c0 c1 d0 d1
            go_wp2
            go_roundw
            case rel => exact ⟨2, by omega, rfl, e0, e1, hn, hbX⟩
            case measure => simp [RowKit.intOf]
        · have hn : Hid (_root_.Go.World.ownsRow _ (w.heap.size + 1) 38 2 _ (Pl.sgs f p (2 * (t + 1))).length (sgCells (Pl.sgs f p (2 * (t + 1))))) := ho
          go_wp2
          go_roundw
          case rel => exact ⟨t + 1, by omega, by go_num, b0, b1, hn, hb⟩
          case measure => first | (simp [RowKit.intOf]; done) | (simp [RowKit.intOf]; omega) | omega
    · obtain rfl : t = 8 := by omega
      have i1 : ¬ ((8 : Nat) : Int) < 8 := by omega
      go_wp2
      go_ret
      exact ⟨_, rfl, Lib.hid (ownLess ho.out), hb⟩
end Go.Proofs.YtmkjmpkicmadcaaDoor

/- A loop over an iterator that hands out a known list of values, its variable boxed: each round lays a block. And the marks that such loops leave among the deferred calls. -/
namespace Go.Proofs.YtmkjmpkicmadcaaDoor
open Go.RowKit
attribute [local go_sem] Oper.semAt_some

variable {P : Program} {n : Nat}

theorem range_nextB {α : Type} {enc : α → Value} (box : α → Obj) {g : Operand} {t1 : Tmp} {assign body : Code} {Q : Exit → Act → World → Prop} {a : Act} {w : World} (h1 : 1 ≤ n) {gf : Nat} {lb : Array Value}
    (hg : a.eval g = .func (.func gf) #[] lb) (eg : ∀ args w, (callFunc gf args).run P w = .ok (.enter gf args) w) {L : List α} {w0 : World} {Keep : World → Prop} (hseq : HandsG enc (n - 1) P gf lb L Keep w0) (hb0 : Below w0.heap.size w0 w)
    (I : List α → World → Prop) (Ix : List α → World → Prop) (hI : OwnFrom w.heap.size I) (hIx : OwnFrom w.heap.size Ix) (hKeep : ∀ pre W, I pre W → Keep W) (h0 : I [] w) (a₁ : α → Nat → Act)
    (hassign : ∀ (l : Nat) (x : α) (W : World) (K : Act → World → Prop), K (a₁ x W.heap.size) (W.alloc (box x)) →
      assign.wpIn (Fence.wide.inRound l) (n - 1 - 1) P (Exit.then K (fun _ _ _ => False)) { tmps := (#[t1].zip #[enc x]).foldl (fun t (p, v) => t.setIfInBounds p v) a.tmps, defers := [] } W)
    (hbody : ∀ (l : Nat) (pre : List α) (x : α) (W : World) (r r' : Loop), I pre W → pre ++ [x] <+: L → w.heap.size ≤ l → W.heap[l]? = some (.loop r) → body.wpIn (Fence.wide.inRound l) (n - 1 - 1) P (fun e _ W' => match e with
      | .normal => KeepsFrom w.heap.size ((W.alloc (box x)).putObj l (.loop r')) W' ∧ KeepsWalks ((W.alloc (box x)).putObj l (.loop r')) W' ∧ I (pre ++ [x]) W'
      | .ret => KeepsFrom w.heap.size ((W.alloc (box x)).putObj l (.loop r')) W' ∧ Ix (pre ++ [x]) W'
      | _ => False) (a₁ x W.heap.size) ((W.alloc (box x)).putObj l (.loop r')))
    (hdone : ∀ (D : Nat) (W : World), w.heap.size ≤ D → I L W → W.heap[D]? = some (.deferred (some [])) → Q .normal { a with defers := { target := .collected D, args := #[] } :: a.defers } W)
    (hstop : ∀ (D : Nat) (pre : List α) (W : World), w.heap.size ≤ D → pre <+: L → Ix pre W → W.heap[D]? = some (.deferred (some [])) → Code.ret.wpIn Fence.wide n P Q { a with defers := { target := .collected D, args := #[] } :: a.defers } W) :
    (Code.rangeFunc g #[t1] assign body).wpIn Fence.wide n P Q a w := by
  refine wpIn_rangeFunc ?_
  intro fn hfn
  obtain ⟨rec, hrec⟩ : ∃ rec : LoopState → Option Code → Loop, rec = fun st pe => { state := st, pending := pe, fn, tmps := a.tmps, params := #[t1], assign, body, defers := w.heap.size } := ⟨_, rfl⟩
  have hq : ∀ st pe, rec st pe = { state := st, pending := pe, fn, tmps := a.tmps, params := #[t1], assign, body, defers := w.heap.size } := fun st pe => by rw [hrec]
  clear hrec
  -- the world in which the iterator begins: two new blocks
  obtain ⟨W1, hW1⟩ : ∃ W1, (w.alloc (.deferred (some []))).alloc (.loop (rec .ready none)) = W1 := ⟨_, rfl⟩
  have hz : w.heap.size + 1 + 1 ≤ W1.heap.size := by rw [← hW1]; simp
  have start : Held rec w.heap.size .ready none (I [] W1) W1 := by
    refine ⟨?_, ?_, ?_⟩
    · rw [← hW1]; exact hI.alloc _ (hI.alloc _ h0)
    · have := World.alloc_heap_new (w.alloc (.deferred (some []))) (.loop (rec .ready none))
      rw [World.size_alloc] at this
      rw [← hW1]; exact this
    · rw [← hW1]; exact (Below.heap_alloc _ _ _ (by simp)).trans (World.alloc_heap_new w _)
  have hb1 : Below w0.heap.size w0 W1 := by
    rw [← hW1]; exact hb0.trans ((((Below.refl _ w).alloc (Nat.le_refl _) _).alloc (by simp) _).mono hb0.size)
  refine ⟨w.heap.size + 1, [{ target := .collected w.heap.size, args := #[] }], W1, { target := .fn (.func gf) lb, args := #[.func (.yield (w.heap.size + 1)) #[] #[]] }, W1, gf, #[.func (.yield (w.heap.size + 1)) #[] #[]] ++ lb, W1,
    by rw [← hW1, hq]; exact run_enterLoop_outer _ _ _ _ _, by simp only [resolve, hg]; simp [go_sem], fun _ _ => trivial, by simp [invoke, go_sem, eg], fun _ => h1, ?_⟩
  clear hW1 h0 hb0
  -- what the caller keeps abides the iterator's own steps
  have far : ∀ {A : World} {row : Option Nat}, (∀ r, row = some r → W1.heap.size ≤ r ∧ ∃ o : Obj, A.heap[r]? = some o ∧ o.isWalk = true) → ∀ r, row = some r → w.heap.size ≤ r ∧ ∃ o : Obj, A.heap[r]? = some o ∧ o.isCells = false := by
    intro A row hr r e
    obtain ⟨h2, o, h3, h4⟩ := hr r e
    exact ⟨by omega, o, h3, Obj.not_cells_of_walk h4⟩
  have abide : ∀ (K : List α → World → Prop), OwnFrom w.heap.size K → ∀ st pe, AbidesFrom W1.heap.size fun pre W => Held rec w.heap.size st pe (K pre W) W := by
    intro K hK st pe p A B row hs hgr hr
    have keep := fun {k : Nat} {o : Obj} (h : A.heap[k]? = some o) (ho : o.isWalk = false) => (grownBy_keeps hgr (fun r e => (hr r e).2) h ho).trans h
    exact ⟨hK p A B row hs.own hgr (far hr), keep hs.loop rfl, keep hs.defs rfl⟩
  -- a turn of the loop's own record
  have turn : ∀ (K : List α → World → Prop), OwnFrom w.heap.size K → ∀ pre W st pe st' pe', Held rec w.heap.size st pe (K pre W) W → Held rec w.heap.size st' pe' (K pre (W.putObj (w.heap.size + 1) (.loop (rec st' pe')))) (W.putObj (w.heap.size + 1) (.loop (rec st' pe'))) := by
    intro K hK pre W st pe st' pe' h
    exact ⟨hK.putObj _ h.own (by omega) h.loop rfl, World.putObj_heap_same (Array.getElem?_eq_some_iff.1 h.loop).1, (World.putObj_heap_other (by omega)).trans h.defs⟩
  refine (hseq (w.heap.size + 1) (fun pre W => Held rec w.heap.size .ready none (I pre W) W) (fun pre W => Held rec w.heap.size .done (some .ret) (Ix pre W) W) W1 hb1 (abide I hI _ _) (fun pre W1 h => hKeep pre W1 h.own) ?_ start).mono ?_
  · intro pre x W h hpre
    have hy := run_yield (P := P) (args := #[enc x]) h.loop (by rw [hq]; rfl)
    rw [hq] at hy
    have hlt : w.heap.size + 1 < W.heap.size := (Array.getElem?_eq_some_iff.1 h.loop).1
    have h' : Held rec w.heap.size .ready none (I pre (W.alloc (box x))) (W.alloc (box x)) := ⟨hI.alloc _ h.own, (Below.heap_alloc _ _ _ hlt).trans h.loop, (Below.heap_alloc _ _ _ (by omega)).trans h.defs⟩
    have h2 := turn I hI pre (W.alloc (box x)) .ready none .busy none h'
    have hbr := run_beginRound (P := P) h'.loop (by rw [hq])
    refine ⟨fn, _, assign, body, hy, roundIn_of_wpIn hfn (hassign _ x W _ ⟨_, hbr, ?_⟩)⟩
    have e2 : ({ rec .ready none with state := .busy } : Loop) = rec .busy none := by rw [hq, hq]
    rw [e2]
    have k2 : KeepsWalks W ((W.alloc (box x)).putObj (w.heap.size + 1) (.loop (rec .busy none))) := ((KeepsOthers.alloc W (box x)).walks).trans (KeepsWalks.putObj _ h'.loop rfl)
    refine wpIn_mono (hbody _ pre x W _ _ h.own hpre (by omega) h.loop) ?_
    intro e a3 W3 hp
    cases e with
    | normal =>
      obtain ⟨hk3, hw3, hi3⟩ := hp
      have h3 : Held rec w.heap.size .busy none (I (pre ++ [x]) W3) W3 := ⟨hi3, hk3.same _ _ (by omega) h2.loop rfl, hk3.same _ _ (Nat.le_refl _) h2.defs rfl⟩
      have hr := run_endRound (P := P) none h3.loop
      have e3 : ({ rec .busy none with state := if (none : Option Code).isNone then .ready else .done, pending := none } : Loop) = rec .ready none := by rw [hq, hq]; rfl
      rw [e3] at hr
      exact ⟨_, _, hr, .inl ⟨rfl, turn I hI _ _ _ _ _ _ h3, (k2.trans hw3).trans (KeepsWalks.putObj _ h3.loop rfl)⟩⟩
    | ret =>
      obtain ⟨hk3, hi3⟩ := hp
      have h3 : Held rec w.heap.size .busy none (Ix (pre ++ [x]) W3) W3 := ⟨hi3, hk3.same _ _ (by omega) h2.loop rfl, hk3.same _ _ (Nat.le_refl _) h2.defs rfl⟩
      have hr := run_endRound (P := P) (some .ret) h3.loop
      have e3 : ({ rec .busy none with state := if (some Code.ret : Option Code).isNone then .ready else .done, pending := some .ret } : Loop) = rec .done (some .ret) := by rw [hq, hq]; rfl
      rw [e3] at hr
      exact ⟨_, _, hr, .inr ⟨rfl, turn Ix hIx _ _ _ _ _ _ h3⟩⟩
    | exit id => exact hp.elim
    | goto t => exact hp.elim
    | panic ch => exact hp.elim
    | outgrown => exact hp.elim
  · rintro e W2 ⟨⟨v, rfl⟩, h | ⟨pre, hpre, h⟩⟩
    · have hr := run_endLoop (P := P) h.loop (by rw [hq]; simp)
      have e3 : ({ rec .ready none with state := .exhausted } : Loop) = rec .exhausted none := by rw [hq, hq]
      rw [e3] at hr
      have h3 := turn I hI _ _ _ _ .exhausted none h
      exact ⟨none, _, by rw [hr, hq], hdone _ _ (Nat.le_refl _) h3.own h3.defs⟩
    · have hr := run_endLoop (P := P) h.loop (by rw [hq]; simp)
      have h3 := turn Ix hIx _ _ _ _ .exhausted (some .ret) h
      have e3 : ({ rec .done (some .ret) with state := .exhausted } : Loop) = rec .exhausted (some .ret) := by rw [hq, hq]
      rw [e3] at hr
      exact ⟨some .ret, _, by rw [hr, hq], hstop _ pre _ (Nat.le_refl _) hpre h3.own h3.defs⟩

/-- the marks among the deferred calls that loops over iterators have left -/
def marks (rs : List Nat) : List Deferred := rs.map fun r => { target := .collected r, args := #[] }
/-- their blocks, taken -/
def freed : List Nat → World → World
  | [], w => w
  | r :: rs, w => freed rs (w.putObj r (.deferred none))
theorem freed_heap : ∀ (rs : List Nat) (w : World) (k : Nat), k ∉ rs → (freed rs w).heap[k]? = w.heap[k]?
  | [], _, _, _ => rfl
  | r :: rs, w, k, h => by
    rw [freed, freed_heap rs _ k (fun hm => h (List.mem_cons_of_mem _ hm))]
    exact World.putObj_heap_other (fun e => h (by rw [e]; exact List.mem_cons_self))
theorem freed_but (rs : List Nat) : ∀ (w : World), But (fun k => k ∈ rs) w (freed rs w) := by
  induction rs with
  | nil => exact fun w => But.refl _ _
  | cons r rs ih =>
    intro w
    have h := ih (w.putObj r (.deferred none))
    have hz : (w.putObj r (.deferred none)).heap.size = w.heap.size := by simp [World.putObj]
    refine ⟨h.os, h.tape, h.output, by rw [← hz]; exact h.size, fun k hk ht => ?_⟩
    exact freed_heap (r :: rs) w k ht

theorem leaves_marks {F : Fence} {fn : Func} {tmps : Array Value} {R : Ending → World → Prop} : ∀ (rs : List Nat) (w : World), rs.Nodup → (∀ r ∈ rs, w.heap[r]? = some (.deferred (some []))) →
    LeavesIn F n P fn tmps R [] .returning (freed rs w) → LeavesInM F n P fn tmps R (marks rs) .returning w
  | [], _, _, _, h => h
  | r :: rs, w, hn, hw, h => by
    refine ⟨by simp, .inl ⟨r, _, rfl, run_takeDeferred (hw r List.mem_cons_self), ?_⟩⟩
    have hn2 := List.nodup_cons.1 hn
    exact leaves_marks rs _ hn2.2 (fun q hq => (World.putObj_heap_other (fun e => hn2.1 (by rw [← e]; exact hq))).trans (hw q (List.mem_cons_of_mem _ hq))) h
end Go.Proofs.YtmkjmpkicmadcaaDoor

/- What loops over an iterator ask of the caller's memory; the two lists of classes, kept. -/
namespace Go.Proofs.YtmkjmpkicmadcaaDoor
open Go.RowKit

theorem butGrown {W W' : World} {row : Option Nat} (h : W.grownBy W' row) : But (fun k => row = some k) W W' := ⟨h.os, h.tape, h.output, h.size, fun k hk hn => h.block k hk (fun e => hn e.symm)⟩
theorem cellGrown {W W' : World} {row : Option Nat} {p : Addr} {x : Value} (hg : W.grownBy W' row) (hr : ∀ r, row = some r → ∃ o : Obj, W.heap[r]? = some o ∧ o.isCells = false) (h : W.cell? p = some x) : W'.cell? p = some x := by
  refine (butGrown hg).kept h (fun e => ?_)
  obtain ⟨o, ho, hc⟩ := hr _ e
  unfold World.cell? at h
  rw [ho] at h
  cases o <;> simp [Obj.isCells] at hc h
/-- a block with a cell holds cells -/
theorem cells_of_cell {W : World} {p : Addr} {x : Value} (h : W.cell? p = some x) {o : Obj} (ho : W.heap[p.block]? = some o) : o.isCells = true := by
  unfold World.cell? at h
  rw [ho] at h
  cases o <;> simp [Obj.isCells] at h ⊢
theorem RowF.but {T : Nat → Prop} {W W' : World} {b N : Nat} {f : Nat → Int} (h : RowF W b N f) (hb : But T W W') (ht : ¬ T b) : RowF W' b N f := fun k hk => by
  obtain ⟨h1, h2⟩ := h k hk
  exact ⟨hb.kept h1 ht, (hb.frozen (p := ⟨b, k, none⟩) (block_lt_of_cell h1) ht).trans h2⟩
theorem UN.but {T : Nat → Prop} {W W' : World} {b3 b4 lb wb N cl cw : Nat} {lf : Nat → Nat} {wf : Nat → Int} (h : UN W b3 b4 lb wb N cl cw lf wf) (hb : But T W W') (h1 : ¬ T b3) (h2 : ¬ T b4) (h3 : ¬ T lb) (h4 : ¬ T wb) : UN W' b3 b4 lb wb N cl cw lf wf :=
  ⟨hb.kept h.c3 h1, hb.kept h.c4 h2, h.l.but hb h3, h.w.but hb h4⟩
theorem keepsU {W W' : World} {lb wb N : Nat} {f g : Nat → Int} (h : But (fun g => g = lb ∨ g = wb) W W') (hl : RowF W lb N f) (hw : RowF W wb N g) (hN : 0 < N) : KeepsOthers W W' :=
  ⟨h.size, fun k o hk ho => by
    have hne : ¬ (k = lb ∨ k = wb) := fun e => by
      rcases e with e | e
      · have := cells_of_cell (hl 0 hN).1 (o := o) (by rw [← e]; exact hk)
        rw [ho] at this; cases this
      · have := cells_of_cell (hw 0 hN).1 (o := o) (by rw [← e]; exact hk)
        rw [ho] at this; cases this
    exact (h.block k (Array.getElem?_eq_some_iff.1 hk).1 hne).trans hk⟩

theorem ownBase {w : World} {base base' : Nat} {e : TypeId} {size : Nat} {v : Value} {n : Nat} {xs : List Value} (h : w.ownsRow base e size v n xs) (hb : base' ≤ base) : w.ownsRow base' e size v n xs := by
  obtain ⟨h1, h2⟩ := h
  refine ⟨h1, ?_⟩
  rcases h2 with h2 | ⟨g, cap, cur, h3, h4, h5⟩
  · exact .inl h2
  · exact .inr ⟨g, cap, cur, h3, Nat.le_trans hb h4, h5⟩
theorem ownBut {T : Nat → Prop} {W W' : World} {base n size : Nat} {e : TypeId} {v : Value} {xs : List Value} (h : W.ownsRow base e size v n xs) (hb : But T W W') (hT : ∀ g, v.ownBlock = some g → ¬ T g) : W'.ownsRow base e size v n xs := by
  obtain ⟨h1, h2⟩ := h
  refine ⟨h1, ?_⟩
  rcases h2 with h2 | ⟨g, cap, cur, hv, hg, hc, hr⟩
  · exact .inl h2
  · refine .inr ⟨g, cap, cur, hv, hg, ?_, hr⟩
    rw [hb.block g (Array.getElem?_eq_some_iff.1 hc).1 (hT g (by rw [hv]; rfl))]
    exact hc
/-- the world in classes -/
structure KC (w W : World) (b3 b4 lb wb N cl cw fb : Nat) (q : List Nat × List Int) (rs : List Nat) : Prop where
  u : UN W b3 b4 lb wb N cl cw (Pl.lsF q.1) (Pl.wsF q.2)
  f3 : W.frozen? ⟨b3, 0, none⟩ = false
  f4 : W.frozen? ⟨b4, 0, none⟩ = false
  f : W.cell? ⟨fb, 0, none⟩ = some (.func (.func 68) #[] #[.pointer (some ⟨b3, 0, none⟩), .pointer (some ⟨b4, 0, none⟩)])
  b : Below w.heap.size w W
  mks : ∀ r ∈ rs, w.heap.size ≤ r ∧ W.heap[r]? = some (.deferred (some []))
/-- where its blocks lie -/
structure KN (w : World) (b3 b4 lb wb fb : Nat) : Prop where
  ne : NE b3 b4 lb wb
  h3 : w.heap.size ≤ b3
  h4 : w.heap.size ≤ b4
  hl : w.heap.size ≤ lb
  hw : w.heap.size ≤ wb
  f1 : fb ≠ lb
  f2 : fb ≠ wb
  b34 : b3 ≠ b4
theorem KC.but {T : Nat → Prop} {w W W' : World} {b3 b4 lb wb N cl cw fb : Nat} {q : List Nat × List Int} {rs : List Nat} (h : KC w W b3 b4 lb wb N cl cw fb q rs) (hb : But T W W') (h0 : ∀ k, k < w.heap.size → ¬ T k) (h1 : ¬ T b3) (h2 : ¬ T b4) (h3 : ¬ T lb) (h4 : ¬ T wb) (h5 : ¬ T fb) (hm : ∀ r ∈ rs, ¬ T r) : KC w W' b3 b4 lb wb N cl cw fb q rs :=
  ⟨h.u.but hb h1 h2 h3 h4, (hb.frozen (p := ⟨b3, 0, none⟩) (block_lt_of_cell h.u.c3) h1).trans h.f3, (hb.frozen (p := ⟨b4, 0, none⟩) (block_lt_of_cell h.u.c4) h2).trans h.f4, hb.kept h.f h5, h.b.trans (hb.below h.b.size h0), fun r hr => ⟨(h.mks r hr).1, (hb.block r (Array.getElem?_eq_some_iff.1 (h.mks r hr).2).1 (hm r hr)).trans (h.mks r hr).2⟩⟩
theorem KC.below {w W W' : World} {b3 b4 lb wb N cl cw fb : Nat} {q : List Nat × List Int} {rs : List Nat} (h : KC w W b3 b4 lb wb N cl cw fb q rs) (hb : Below W.heap.size W W') : KC w W' b3 b4 lb wb N cl cw fb q rs :=
  h.but (T := fun _ => False) ((But.of_below hb).mono (fun _ _ h => h)) (fun _ _ h => h) id id id id id (fun _ _ h => h)
theorem KC.next {w W W' : World} {b3 b4 lb wb N cl cw fb : Nat} {q q' : List Nat × List Int} {rs : List Nat} (h : KC w W b3 b4 lb wb N cl cw fb q rs) (kn : KN w b3 b4 lb wb fb) (hN : 0 < N) (hb : But (fun g => g = lb ∨ g = wb) W W') {lf : Nat → Nat} {wf : Nat → Int} (hu : UN W' b3 b4 lb wb N cl cw lf wf) (h1 : ∀ k, k < N → lf k = Pl.lsF q'.1 k) (h2 : ∀ k, k < N → wf k = Pl.wsF q'.2 k) : KC w W' b3 b4 lb wb N cl cw fb q' rs := by
  have ne := kn.ne
  refine ⟨hu.congr h1 h2, (hb.frozen (p := ⟨b3, 0, none⟩) (block_lt_of_cell h.u.c3) (fun e => e.elim ne.n2 ne.n3)).trans h.f3, (hb.frozen (p := ⟨b4, 0, none⟩) (block_lt_of_cell h.u.c4) (fun e => e.elim ne.n4 ne.n5)).trans h.f4, hb.kept h.f (fun e => e.elim kn.f1 kn.f2), h.b.trans (hb.below h.b.size (fun k hk e => by have := kn.hl; have := kn.hw; omega)), fun r hr => ⟨(h.mks r hr).1, ?_⟩⟩
  refine (hb.block r (Array.getElem?_eq_some_iff.1 (h.mks r hr).2).1 (fun e => ?_)).trans (h.mks r hr).2
  rcases e with e | e
  · have := cells_of_cell (h.u.l 0 hN).1 (o := _) (by rw [← e]; exact (h.mks r hr).2)
    cases this
  · have := cells_of_cell (h.u.w 0 hN).1 (o := _) (by rw [← e]; exact (h.mks r hr).2)
    cases this
theorem KC.mark {w W : World} {b3 b4 lb wb N cl cw fb : Nat} {q : List Nat × List Int} {rs : List Nat} (h : KC w W b3 b4 lb wb N cl cw fb q rs) {E : Nat} (hE : w.heap.size ≤ E) (hD : W.heap[E]? = some (.deferred (some []))) : KC w W b3 b4 lb wb N cl cw fb q (E :: rs) :=
  ⟨h.u, h.f3, h.f4, h.f, h.b, fun r hr => (List.mem_cons.1 hr).elim (fun e => e ▸ ⟨hE, hD⟩) (h.mks r)⟩

/-- what the loop over a sign's cells keeps -/
def KI (w : World) (S b3 b4 lb wb N cl cw fb wy b2 b5 s t : Nat) (G : List (Nat × Bool)) (m : Bool) (rs : List Nat) (pre : List (Nat × Nat)) (W : World) : Prop :=
  KC w W b3 b4 lb wb N cl cw fb (Pl.clsTo s G m pre) rs ∧ W.cell? ⟨wy, 0, none⟩ = some (.int .i64 (Pl.sg m)) ∧ MK b2 b5 s t W ∧
    (∀ r ∈ rs, r < S) ∧ (b3 < S ∧ b4 < S ∧ lb < S ∧ wb < S ∧ fb < S ∧ w.heap.size ≤ S)
theorem ki_own (w : World) (S b3 b4 lb wb N cl cw fb wy b2 b5 s t : Nat) (G : List (Nat × Bool)) (m : Bool) (rs : List Nat) : OwnFrom S (KI w S b3 b4 lb wb N cl cw fb wy b2 b5 s t G m rs) := by
  intro pre W W' row ⟨h1, h2, h3, h4, h5⟩ hg hr
  have hr2 : ∀ r, row = some r → ∃ o : Obj, W.heap[r]? = some o ∧ o.isCells = false := fun r e => (hr r e).2
  have far : ∀ k, k < S → ¬ row = some k := fun k hk e => by have := (hr k e).1; omega
  exact ⟨h1.but (butGrown hg) (fun k hk e => far k (by omega) e) (far _ (by omega)) (far _ (by omega)) (far _ (by omega)) (far _ (by omega)) (far _ (by omega)) (fun r hm => far r (h4 r hm)), cellGrown hg hr2 h2, ⟨cellGrown hg hr2 h3.c, cellGrown hg hr2 h3.f0, cellGrown hg hr2 h3.f1⟩, h4, h5⟩
theorem ownForm {w : World} {base n size : Nat} {e : TypeId} {v : Value} {xs : List Value} (h : w.ownsRow base e size v n xs) : ∃ p cp, v = .slice p n cp := by
  rcases h.2 with ⟨hv, h0⟩ | ⟨g, cap, cur, hv, _⟩
  · exact ⟨none, 0, by rw [hv, h0]⟩
  · exact ⟨_, cap, hv⟩
theorem entC : ∀ args W, (callFunc 68 args).run Tryd.prog W = .ok (.enter 68 args) W := fun args W => Go.Proofs.enters_of Tryd.func68 (by kernel_rfl) rfl args W
end Go.Proofs.YtmkjmpkicmadcaaDoor
