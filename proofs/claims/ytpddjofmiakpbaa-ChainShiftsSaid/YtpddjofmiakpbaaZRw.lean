/- Contracts of the specification: With. -/
import Derived.Test.YtpddjofmiakpbaaZ06
set_option linter.unusedSimpArgs false
set_option linter.unusedVariables false
namespace Go.Proofs.Ytpddjofmiakpbaa
open Go.RowKit

/-- append of links that lie in a row, to links of one's own, inside a region that draws its order -/
theorem step_append_lks {w : World} {ops : Array Oper} {o : Oper} {a : Act} {K : Act → World → Prop} {Q : Exit → Act → World → Prop} {E : Prop} (hgd : o.guard = none) (s x : Operand)
    (ho : o.op = .call { callee := .builtin .append, args := #[s, x], argTypes := #[22, 22] })
    (base : Nat) (v : Value) (n : Nat) (pre : List Ch.Lk) (hs : a.eval s = v) (hown : w.ownsRow base 63 3 v n (lkCells pre))
    (b : Option Addr) (m cap : Nat) (L : List Ch.Lk) (hm : L.length = m) (hx : a.eval x = .slice b m cap) (hL : LksAt w b L) (hb : b = none → cap = 0)
    (h9 : n + m ≤ 100000) (hbase : base ≤ w.heap.size)
    (h : ∀ p cp w', w'.ownsRow base 63 3 (.slice p (n + m) cp) (n + m) (lkCells (pre ++ L)) → w.grownBy w' v.ownBlock → K (a.put o.dst (.slice p (n + m) cp)) w') :
    if Region.wanted o (yielded ops a.tmps) = true then Oper.wp Try.prog o a w K Q else E := by
  have hw : Region.wanted o (yielded ops a.tmps) = true := by unfold Region.wanted; rw [hgd]
  rw [if_pos hw]
  obtain ⟨i0, hi, hz0, hz1, hz2⟩ := info_parts infoLk
  subst hm
  cases b with
  | none =>
    have h0 := hb rfl
    subst h0
    have hl : L = [] := by
      cases L with
      | nil => rfl
      | cons l r =>
        obtain ⟨x, hx, _⟩ := hL 0 (by simp)
        cases hx
    subst hl
    have hrun := run_append_owned_none (P := Try.prog) (w := w) base 22 o.type 63 i0 3 Try.underlying22 hi v n _ hown
    obtain ⟨p, cp, hv, _⟩ := owns_slice hown
    have h2 := h p cp w (by rw [List.append_nil]; rw [hv] at hown; exact hown) (by exact grownBy_refl _ _)
    have hx' : a.eval x = .slice none 0 0 := hx
    unfold Oper.wp
    simp [execOp, ho, resolve, invoke, builtin, hs, hx', hrun, Result.andThen]
    rw [hv]
    exact h2
  | some ad =>
    refine wp_append_own w s x 22 ho base 63 i0 _ 3 24 Try.underlying22 hi hz0 hz1 hz2 rfl (by decide) v n _ hs hown ad L.length cap (lkCells L) hx (lkCells_len L) (fun j u hu => lks_cells hL j u hu) (lk_one L) ?_ ?_ hbase ?_
    · unfold maxLen; omega
    · omega
    · intro v' w' h1 h2 _
      rw [← lkCells_append] at h1
      obtain ⟨p, cp, rfl, _⟩ := owns_slice h1
      exact h p cp w' h1 h2

/-- what With of the specification leaves -/
def RwPost (w : World) (n : Int) (L : List Ch.Lk) (e : Ending) (w' : World) : Prop :=
  ∃ v, e = .returned (.agg #[.int .i64 n, v]) ∧ w'.ownsRow w.heap.size 63 3 v L.length (lkCells L) ∧ Below w.heap.size w w'

set_option linter.unusedSimpArgs false in
set_option maxRecDepth 100000 in
set_option maxHeartbeats 4000000 in
theorem rwith_any (n : Int) (a b : Option Addr) (m q cap cap2 : Nat) (L L2 : List Ch.Lk) (hm : Hid (L.length = m)) (hq : Hid (L2.length = q)) (ha : Hid (a = none → cap = 0)) (hb : Hid (b = none → cap2 = 0)) (hm9 : m ≤ 1000) (hq9 : q ≤ 1000) (w : World) (hL : Hid (LksAt w a L)) (hL2 : Hid (LksAt w b L2)) :
    Calls Try.prog 41 #[sysV n a m cap, .slice b q cap2] w (RwPost w n (L ++ L2)) := by
  unfold sysV
  go_enter Try.func41, Try.ntmps41
  go_upto_region 1 with fail
  have c0 : ((w.alloc (Obj.cells #[.int .i64 n, .slice a m cap] 24)).alloc (Obj.cells #[.int .i64 0, .slice none 0 0] 24)).cell? ⟨w.heap.size, 0, none⟩ = some (.int .i64 n) := by simp [go_sem]
  have c1 : ((w.alloc (Obj.cells #[.int .i64 n, .slice a m cap] 24)).alloc (Obj.cells #[.int .i64 0, .slice none 0 0] 24)).cell? ⟨w.heap.size, 1, none⟩ = some (.slice a m cap) := by simp [go_sem]
  have bX : Below w.heap.size w ((w.alloc (Obj.cells #[.int .i64 n, .slice a m cap] 24)).alloc (Obj.cells #[.int .i64 0, .slice none 0 0] 24)) := below_alloc (below_alloc (Below.refl _ _) _) _
  have rX : ((w.alloc (Obj.cells #[.int .i64 n, .slice a m cap] 24)).alloc (Obj.cells #[.int .i64 0, .slice none 0 0] 24)).rowIs (w.heap.size + 1) 24 2 (fun i => if i = 0 then .int .i64 0 else .slice none 0 0) := by
    have h := sysRow (X := w.alloc (Obj.cells #[.int .i64 n, .slice a m cap] 24)) (n := 0) (p := none) (m := 0)
    simpa using h
  have zX : ((w.alloc (Obj.cells #[.int .i64 n, .slice a m cap] 24)).alloc (Obj.cells #[.int .i64 0, .slice none 0 0] 24)).heap.size = w.heap.size + 2 := by simp
  replace rX := Lib.hid rX
  replace zX := Lib.hid zX
  generalize (w.alloc (Obj.cells #[.int .i64 n, .slice a m cap] 24)).alloc (Obj.cells #[.int .i64 0, .slice none 0 0] 24) = X at *
  have hX1 := Lib.hid (hL.out.below bX)
  have hX2 := Lib.hid (hL2.out.below bX)
  have S0 : X.drew.cell? ⟨w.heap.size, 0, none⟩ = some (.int .i64 n) ∧ X.drew.cell? ⟨w.heap.size, 1, none⟩ = some (.slice a m cap) := ⟨c0, c1⟩
  have hO0 := Lib.hid (owns_new0 X 63 3 0 #[] rfl (Nat.zero_le _))
  have hbA : Below X.heap.size X (X.alloc (Obj.cells #[] 63)).drew := ((Below.refl X.heap.size X).alloc (Nat.le_refl _) _).drew
  clear c0 c1
  refine region_head_held 9 (fun w' => w'.cell? ⟨w.heap.size, 0, none⟩ = some (.int .i64 n) ∧ w'.cell? ⟨w.heap.size, 1, none⟩ = some (.slice a m cap)) (by kernel_rfl) (by kernel_rfl) S0 (fun hHeld => ?_)
  simp only [List.take_succ_cons, List.take_zero, List.drop_succ_cons, List.drop_zero]
  refine wpAnyH_take (i := 0) (v := ?_) rfl (by kernel_rfl) (by kernel_rfl) (by kernel_rfl) (fun _ _ _ h => h) (Or.inl ⟨by rfl, ?_⟩) (by assumption) ?_
  rotate_left 1
  · (intro w hSw; (try dsimp only at hSw); go_simp; all_goals with_reducible rfl)
  try simp only [Act.put, List.setIfInBounds_toArray, List.set_cons_zero, List.set_cons_succ]
  refine wpAnyH_take (i := 1) (v := ?_) rfl (by kernel_rfl) (by kernel_rfl) (by kernel_rfl) (fun _ _ _ h => h) (Or.inl ⟨by rfl, ?_⟩) (by assumption) ?_
  rotate_left 1
  · (intro w hSw; (try dsimp only at hSw); go_simp; all_goals with_reducible rfl)
  try simp only [Act.put, List.setIfInBounds_toArray, List.set_cons_zero, List.set_cons_succ]
  refine wpAnyH_take (i := 3) (v := ?_) rfl (by kernel_rfl) (by kernel_rfl) (by kernel_rfl) (fun _ _ _ h => h) (Or.inl ⟨by rfl, ?_⟩) (by assumption) ?_
  rotate_left 1
  · (intro w hSw; (try dsimp only at hSw); go_simp; all_goals with_reducible rfl)
  try simp only [Act.put, List.setIfInBounds_toArray, List.set_cons_zero, List.set_cons_succ]
  refine wpAnyH_take (i := 4) (v := ?_) rfl (by kernel_rfl) (by kernel_rfl) (by kernel_rfl) (fun _ _ _ h => h) (Or.inl ⟨by rfl, ?_⟩) (by assumption) ?_
  rotate_left 1
  · (intro w hSw; (try dsimp only at hSw); go_simp; all_goals with_reducible rfl)
  try simp only [Act.put, List.setIfInBounds_toArray, List.set_cons_zero, List.set_cons_succ]
  refine wpAnyH_take (i := 6) (v := ?_) rfl (by kernel_rfl) (by kernel_rfl) (by kernel_rfl) (fun _ _ _ h => h) (Or.inl ⟨by rfl, ?_⟩) (by assumption) ?_
  rotate_left 1
  · (intro w hSw; (try dsimp only at hSw); go_simp; all_goals with_reducible rfl)
  try simp only [Act.put, List.setIfInBounds_toArray, List.set_cons_zero, List.set_cons_succ]
  refine wpAnyH_ready (rs := [2]) (by kernel_rfl) (by simp) ?_
  refine AllReadyH.cons rfl (fun K hK => ?_) ?_
  rotate_left 1
  · exact AllReadyH.nil
  go_simp
  refine hK.out _ _ (keepC hHeld ((Below.refl _ _).alloc (Nat.le_refl _) _)) (fun hHeld2 => ?_)
  clear hK K
  try simp only [Act.put, List.setIfInBounds_toArray, List.set_cons_zero, List.set_cons_succ]
  refine wpAnyH_ready (rs := [5]) (by kernel_rfl) (by simp) ?_
  refine AllReadyH.cons rfl (fun K hK => ?_) ?_
  rotate_left 1
  · exact AllReadyH.nil
  refine step_append_lks (by rfl) _ _ (by rfl) X.heap.size (.slice (some ⟨X.heap.size, 0, none⟩) 0 0) 0 [] (by rfl) hO0.out.drew a m cap L hm.out (by rfl) (hX1.out.below hbA) ha.out (by omega) hbA.size ?_
  intro p1 cp1 wp1 hown1 hgrow1
  simp only [Nat.zero_add, List.nil_append] at hown1 ⊢
  have hB1 := below_grown hbA hO0.out.drew hgrow1
  have lX : w.heap.size < X.heap.size := by have := zX.out; omega
  have hHeld3 : wp1.cell? ⟨w.heap.size, 0, none⟩ = some (.int .i64 n) ∧ wp1.cell? ⟨w.heap.size, 1, none⟩ = some (.slice a m cap) := ⟨(hB1.cell (p := ⟨w.heap.size, 0, none⟩) lX).trans S0.1, (hB1.cell (p := ⟨w.heap.size, 1, none⟩) lX).trans S0.2⟩
  refine hK.out _ _ hHeld3 (fun hHeld4 => ?_)
  clear hK K
  try simp only [Act.put, List.setIfInBounds_toArray, List.set_cons_zero, List.set_cons_succ]
  refine wpAnyH_ready (rs := [7]) (by kernel_rfl) (by simp) ?_
  refine AllReadyH.cons rfl (fun K hK => ?_) ?_
  rotate_left 1
  · exact AllReadyH.nil
  refine step_append_lks (by rfl) _ _ (by rfl) X.heap.size (.slice p1 m cp1) m L (by rfl) hown1 b q cap2 L2 hq.out (by rfl) (hX2.out.below hB1) hb.out (by omega) hB1.size ?_
  intro p2 cp2 wp2 hown2 hgrow2
  have hB2 := below_grown hB1 hown1 hgrow2
  have hHeld5 : wp2.cell? ⟨w.heap.size, 0, none⟩ = some (.int .i64 n) ∧ wp2.cell? ⟨w.heap.size, 1, none⟩ = some (.slice a m cap) := ⟨(hB2.cell (p := ⟨w.heap.size, 0, none⟩) lX).trans S0.1, (hB2.cell (p := ⟨w.heap.size, 1, none⟩) lX).trans S0.2⟩
  refine hK.out _ _ hHeld5 (fun hHeld6 => ?_)
  clear hK K
  try simp only [Act.put, List.setIfInBounds_toArray, List.set_cons_zero, List.set_cons_succ]
  refine wpAnyH_take (i := 8) (v := ?_) rfl (by kernel_rfl) (by kernel_rfl) (by kernel_rfl) (fun _ _ _ h => h) (Or.inl ⟨by rfl, ?_⟩) (by assumption) ?_
  rotate_left 1
  · (intro w hSw; (try dsimp only at hSw); go_simp; all_goals with_reducible rfl)
  try simp only [Act.put, List.setIfInBounds_toArray, List.set_cons_zero, List.set_cons_succ]
  refine wpAnyH_done (by kernel_rfl) ?_ _
  show wpList _ _ _ _ _ _
  have rr2 := Lib.hid (rX.out.of_block (hB2.block _ rX.out.lt))
  have t0 := rr2.out.cell (i := 0) (by omega)
  have t1 := rr2.out.cell (i := 1) (by omega)
  have tz0 := rr2.out.frozen 0
  have tz1 := rr2.out.frozen 1
  simp only [if_true, Nat.one_ne_zero, if_false] at t0 t1
  have q0 : ((wp2.setCell ⟨w.heap.size + 1, 0, none⟩ (.int .i64 n)).setCell ⟨w.heap.size + 1, 1, none⟩ (.slice p2 (m + q) cp2)).cell? ⟨w.heap.size + 1, 0, none⟩ = some (.int .i64 n) := ((rr2.out.set 0 _).set 1 _).cell (i := 0) (by omega)
  have q1 : ((wp2.setCell ⟨w.heap.size + 1, 0, none⟩ (.int .i64 n)).setCell ⟨w.heap.size + 1, 1, none⟩ (.slice p2 (m + q) cp2)).cell? ⟨w.heap.size + 1, 1, none⟩ = some (.slice p2 (m + q) cp2) := ((rr2.out.set 0 _).set 1 _).cell (i := 1) (by omega)
  have hB4 : Below w.heap.size w ((wp2.setCell ⟨w.heap.size + 1, 0, none⟩ (.int .i64 n)).setCell ⟨w.heap.size + 1, 1, none⟩ (.slice p2 (m + q) cp2)) := (((bX.trans (hB2.mono bX.size))).setCell (p := ⟨w.heap.size + 1, 0, none⟩) (by simp) (.int .i64 n)).setCell (p := ⟨w.heap.size + 1, 1, none⟩) (by simp) _
  have hown := Lib.hid (owns_base (base' := w.heap.size) (owns_but hown2 (((But.refl (fun g => g = w.heap.size + 1) wp2).setCell (p := ⟨w.heap.size + 1, 0, none⟩) (.inr rfl) (.int .i64 n)).setCell (p := ⟨w.heap.size + 1, 1, none⟩) (.inr rfl) (.slice p2 (m + q) cp2)) (fun g hg e => by have := owns_far hown2 hg; have := zX.out; omega)) bX.size)
  have e9 : (L ++ L2).length = m + q := by have := hm.out; have := hq.out; rw [List.length_append]; omega
  replace e9 := Lib.hid e9
  clear hown1 hown2 hgrow1 hgrow2 hHeld hHeld2 hHeld3 hHeld4 hHeld5 hHeld6 S0 hO0 hbA
  go_wp2
  clear t0 t1 tz0 tz1 rr2
  generalize (wp2.setCell ⟨w.heap.size + 1, 0, none⟩ (.int .i64 n)).setCell ⟨w.heap.size + 1, 1, none⟩ (.slice p2 (m + q) cp2) = W at *
  refine bodyPost_ret (v := (.agg #[.int .i64 n, .slice p2 (m + q) cp2])) (by simp [results, Try.results41, go_sem, q0, q1]) rfl ?_
  exact ⟨_, rfl, by rw [e9.out]; exact hown.out, hB4⟩
end Go.Proofs.Ytpddjofmiakpbaa
