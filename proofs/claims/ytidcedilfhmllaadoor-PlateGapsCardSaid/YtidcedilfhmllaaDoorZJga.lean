/- Contracts of package plate: sums. -/
import Derived.Test.YtidcedilfhmllaaDoorZ07
import Derived.Test.YtidcedilfhmllaaDoorZ19
import Derived.Test.YtidcedilfhmllaaDoorZ18
import Derived.Test.YtidcedilfhmllaaDoorZIsh
import Derived.Test.YtidcedilfhmllaaDoorZJap
import Derived.Maps.AppendAt
set_option linter.unusedSimpArgs false
set_option linter.unusedVariables false
namespace Pl
/-- both heights at a cell -/
def smF (l1 l2 : List Int) (e : Nat × Nat) : Int := l1.getD e.1 0 + l2.getD e.2 0
/-- sums -/
def sms (s t : Nat) (l1 l2 : List Int) : List Int := (mvs s t (s * s)).map (smF l1 l2)
end Pl
namespace Go.Proofs.YtidcedilfhmllaaDoor
open Go.RowKit
set_option linter.unusedVariables false
set_option linter.unusedSimpArgs false
attribute [local go_sem] Oper.semAt_some

theorem ownCells {w : World} {base n size : Nat} {e : TypeId} {v : Value} {xs : List Value} (h : w.ownsRow base e size v n xs) {g : Nat} (hg : v.ownBlock = some g) {o : Obj} (ho : w.heap[g]? = some o) : o.isCells = true := by
  rcases h.2 with ⟨hv, _⟩ | ⟨g', cap, cur, hv, hb, hh, _⟩
  · rw [hv] at hg; cases hg
  · rw [hv] at hg
    have e4 : g' = g := Option.some.inj hg
    rw [e4] at hh
    rw [hh] at ho
    obtain rfl := Option.some.inj ho
    rfl
theorem cellIs {W : World} {p : Addr} {x : Value} (h : W.cell? p = some x) {o : Obj} (ho : W.heap[p.block]? = some o) : o.isCells = true := by
  unfold World.cell? at h
  rw [ho] at h
  cases o <;> simp [Obj.isCells] at h ⊢

/-- what the loop over the moves keeps -/
structure SI (w : World) (S b2 b5 s t : Nat) (x y : Option Addr) (n c m d : Nat) (l1 l2 : List Int) (pre : List (Nat × Nat)) (W : World) : Prop where
  c0 : W.cell? ⟨w.heap.size, 0, none⟩ = some (.slice x n c)
  c1 : W.cell? ⟨w.heap.size + 1, 0, none⟩ = some (.slice y m d)
  v : ∃ v, W.cell? ⟨w.heap.size + 2, 0, none⟩ = some v ∧ W.ownsRow S 3 1 v pre.length ((pre.map (Pl.smF l1 l2)).map fun z => Value.int .i64 z)
  f : W.frozen? ⟨w.heap.size + 2, 0, none⟩ = false
  m : MK b2 b5 s t W
  b : Below w.heap.size w W
  z : S ≤ W.heap.size
theorem SI.own {w : World} {S b2 b5 s t : Nat} {x y : Option Addr} {n c m d : Nat} {l1 l2 : List Int} (hS : w.heap.size ≤ S) : OwnFrom S (SI w S b2 b5 s t x y n c m d l1 l2) := by
  intro pre W W' row h hg hr
  have hr2 : ∀ r, row = some r → ∃ o : Obj, W.heap[r]? = some o ∧ o.isCells = false := fun r e => (hr r e).2
  obtain ⟨v, d9, o9⟩ := h.v
  have nc : ∀ {p : Addr} {u : Value}, W.cell? p = some u → ¬ row = some p.block := fun hc e => by
    obtain ⟨o, ho, hf⟩ := hr2 _ e
    rw [cellIs hc ho] at hf
    cases hf
  refine ⟨cellGrown hg hr2 h.c0, cellGrown hg hr2 h.c1, ⟨v, cellGrown hg hr2 d9, ownBut o9 (butGrown hg) (fun g hv e => ?_)⟩, ((butGrown hg).frozen (p := ⟨w.heap.size + 2, 0, none⟩) (block_lt_of_cell d9) (nc d9)).trans h.f, ⟨cellGrown hg hr2 h.m.c, cellGrown hg hr2 h.m.f0, cellGrown hg hr2 h.m.f1⟩, h.b.trans ((Below.refl _ _).grown hg h.b.size (fun r e => Nat.le_trans hS (hr r e).1)), Nat.le_trans h.z hg.size⟩
  obtain ⟨o, ho, hf⟩ := hr2 _ e
  rw [ownCells o9 hv ho] at hf
  cases hf

theorem SI.app {w W w4 : World} {S b2 b5 s t : Nat} {x y : Option Addr} {n c m d : Nat} {l1 l2 : List Int} {pre : List (Nat × Nat)} (h : SI w S b2 b5 s t x y n c m d l1 l2 pre W) (hS : w.heap.size + 3 ≤ S) (hb : (b2 < S ∧ b5 < S) ∧ w.heap.size + 2 < b2 ∧ w.heap.size + 2 < b5) {v v' : Value} {ob : Obj} {e : Nat × Nat}
    (d9 : W.cell? ⟨w.heap.size + 2, 0, none⟩ = some v) (o9 : W.ownsRow S 3 1 v pre.length ((pre.map (Pl.smF l1 l2)).map fun z => Value.int .i64 z))
    (hown : w4.ownsRow S 3 1 v' (pre.length + 1) (((pre.map (Pl.smF l1 l2)).map fun z => Value.int .i64 z) ++ [.int .i64 (Pl.smF l1 l2 e)])) (hgrow : (W.alloc ob).grownBy w4 v.ownBlock) :
    w4.cell? ⟨w.heap.size + 2, 0, none⟩ = some v ∧ w4.frozen? ⟨w.heap.size + 2, 0, none⟩ = false ∧ SI w S b2 b5 s t x y n c m d l1 l2 (pre ++ [e]) (w4.setCell ⟨w.heap.size + 2, 0, none⟩ v') ∧ KeepsOthers W (w4.setCell ⟨w.heap.size + 2, 0, none⟩ v') := by
  have hbt := butGrown hgrow
  have hfar : ∀ k, k < S → ¬ v.ownBlock = some k := fun k hk e => by have := ownFar o9 e; omega
  have hA := below_alloc (Below.refl W.heap.size W) ob
  have q2 := hbt.kept (cell_alloc d9 ob) (hfar (w.heap.size + 2) (by omega))
  have g2 : w4.frozen? ⟨w.heap.size + 2, 0, none⟩ = false := (hbt.frozen (p := ⟨w.heap.size + 2, 0, none⟩) (block_lt_of_cell (cell_alloc d9 ob)) (hfar (w.heap.size + 2) (by omega))).trans ((hA.frozen (p := ⟨w.heap.size + 2, 0, none⟩) (block_lt_of_cell d9)).trans h.f)
  have hbs : But (fun k => k = w.heap.size + 2) w4 (w4.setCell ⟨w.heap.size + 2, 0, none⟩ v') := (But.refl (fun k => k = w.heap.size + 2) w4).setCell (p := ⟨w.heap.size + 2, 0, none⟩) (.inr rfl) _
  have kp : ∀ {b : Nat} {u : Value}, b < S → b ≠ w.heap.size + 2 → W.cell? ⟨b, 0, none⟩ = some u → (w4.setCell ⟨w.heap.size + 2, 0, none⟩ v').cell? ⟨b, 0, none⟩ = some u := fun {b u} h1 h2 hc => hbs.kept (hbt.kept (cell_alloc hc ob) (hfar b h1)) h2
  have kp1 : ∀ {b : Nat} {u : Value}, b < S → b ≠ w.heap.size + 2 → W.cell? ⟨b, 1, none⟩ = some u → (w4.setCell ⟨w.heap.size + 2, 0, none⟩ v').cell? ⟨b, 1, none⟩ = some u := fun {b u} h1 h2 hc => hbs.kept (hbt.kept (cell_alloc hc ob) (hfar b h1)) h2
  refine ⟨q2, g2, ⟨kp (by omega) (by omega) h.c0, kp (by omega) (by omega) h.c1, ⟨v', by simp [go_sem, q2], ?_⟩, by simp [go_sem, g2], ⟨kp hb.1.1 (by omega) h.m.c, kp hb.1.2 (by omega) h.m.f0, kp1 hb.1.2 (by omega) h.m.f1⟩, ?_, ?_⟩, ?_⟩
  · have h9 := ownsRow_setCell_below hown (a := ⟨w.heap.size + 2, 0, none⟩) (by show w.heap.size + 2 < S; omega) v'
    rw [List.length_append, List.map_append, List.map_append]
    exact h9
  · exact ((below_alloc h.b ob).grown hgrow (by have := h.b.size; simp; omega) (fun g hg => by have := ownFar o9 hg; omega)).setCell (p := ⟨w.heap.size + 2, 0, none⟩) (by show w.heap.size ≤ w.heap.size + 2; omega) v'
  · have h1 := hbt.size
    have h2 := h.z
    simp at h1 ⊢
    omega
  · exact (KeepsOthers.alloc W ob).trans ((KeepsOthers.of_grownBy hgrow (fun j o hj ho => ownCells (o9.alloc ob) hj ho)).trans (KeepsOthers.setCell _ _ _))

set_option maxRecDepth 100000 in
set_option maxHeartbeats 8000000 in
theorem sums_any (s t : Nat) (h1 : 1 ≤ s) (h6 : s ≤ 6) (ht : t < 8) (x y : Option Addr) (c d N : Nat) (hN : s * s = N) (l1 l2 : List Int) (hl1 : Hid (l1.length = N)) (hl2 : Hid (l2.length = N)) (hf1 : Hid (∀ z ∈ l1, -1099511627776 ≤ z ∧ z ≤ 1099511627776)) (hf2 : Hid (∀ z ∈ l2, -1099511627776 ≤ z ∧ z ≤ 1099511627776)) (w : World) (hx : Hid (NsAt w x l1)) (hy : Hid (NsAt w y l2)) :
    Calls Tryd.prog 45 #[.int .i64 (s : Int), .slice x N c, .slice y N d, .int .i64 (t : Int)] w fun e w' => ∃ v, e = .returned v ∧ Hid (w'.ownsRow w.heap.size 3 1 v N ((Pl.sms s t l1 l2).map fun z => Value.int .i64 z)) ∧ Below w.heap.size w w' := by
  obtain ⟨i0, hi, hz0, hz1, hz2⟩ := info_parts infoI64
  have HM := Lib.hid (fun W => moves_any s t ht W)
  have hs3 : s * s ≤ 36 := Nat.mul_le_mul h6 h6
  rw [hN] at hs3
  refine (callsIn_wide (n := 7)).1 ?_
  refine callsIn_of_wp_marks Tryd.func45 rfl trivial ?_ rfl
  simp only [Tryd.ntmps45, List.size_toArray, List.length_cons, List.length_nil, Nat.reduceAdd, Nat.reduceSub, Array.replicate_succ, Array.replicate_zero, List.push_toArray, List.append_toArray, List.nil_append, List.cons_append]
  gi_upto_region 2 with fail
  have c0 : (((w.alloc (Obj.cells #[.slice x N c] 22)).alloc (Obj.cells #[.slice y N d] 22)).alloc (Obj.cells #[.slice none 0 0] 22)).cell? ⟨w.heap.size, 0, none⟩ = some (.slice x N c) := by simp [go_sem]
  have c1 : (((w.alloc (Obj.cells #[.slice x N c] 22)).alloc (Obj.cells #[.slice y N d] 22)).alloc (Obj.cells #[.slice none 0 0] 22)).cell? ⟨w.heap.size + 1, 0, none⟩ = some (.slice y N d) := by simp [go_sem]
  have c2 : (((w.alloc (Obj.cells #[.slice x N c] 22)).alloc (Obj.cells #[.slice y N d] 22)).alloc (Obj.cells #[.slice none 0 0] 22)).cell? ⟨w.heap.size + 2, 0, none⟩ = some (.slice none 0 0) := by simp [go_sem]
  have cf : (((w.alloc (Obj.cells #[.slice x N c] 22)).alloc (Obj.cells #[.slice y N d] 22)).alloc (Obj.cells #[.slice none 0 0] 22)).frozen? ⟨w.heap.size + 2, 0, none⟩ = false := by simp [go_sem]
  have hX : Below w.heap.size w (((w.alloc (Obj.cells #[.slice x N c] 22)).alloc (Obj.cells #[.slice y N d] 22)).alloc (Obj.cells #[.slice none 0 0] 22)) := below_alloc (below_alloc (below_alloc (Below.refl _ _) _) _) _
  generalize ((w.alloc (Obj.cells #[.slice x N c] 22)).alloc (Obj.cells #[.slice y N d] 22)).alloc (Obj.cells #[.slice none 0 0] 22) = X at *
  gi_wp2_with fail
  refine ⟨trivial, ?_⟩
  refine (callsIn_wide.2 (HM.out _)).mono ?_
  rintro e w2 ⟨b2, b5, rfl, hMK, hb2, hs2, hs5⟩
  have hX2 := hX.trans (hb2.mono hX.size)
  have q0 := kept1 c0 hb2
  have q1 := kept1 c1 hb2
  have q2 := kept1 c2 hb2
  have qf := (hb2.frozen (p := ⟨w.heap.size + 2, 0, none⟩) (block_lt_of_cell c2)).trans cf
  have hz3 := block_lt_of_cell c2
  simp only at hz3
  have hb5 : b5 < w2.heap.size := block_lt_of_cell hMK.out.f0
  have hb2' : b2 < w2.heap.size := block_lt_of_cell hMK.out.c
  have hS0 : Hid (SI w w2.heap.size b2 b5 s t x y N c N d l1 l2 [] w2) := Lib.hid ⟨q0, q1, ⟨_, q2, World.ownsRow_nil _ _ _ _⟩, qf, hMK.out, hX2, Nat.le_refl _⟩
  have hzz : w.heap.size + 3 ≤ w2.heap.size := by have := hb2.size; omega
  have hb23 : w.heap.size + 2 < b2 ∧ w.heap.size + 2 < b5 := by omega
  clear HM c0 c1 c2 cf hb2 q0 q1 q2 qf hX hz3
  gi_wp2_with fail
  refine range_nextV (enc := mvV) (n := 7) (hps := fun _ => rfl) (by omega) (gf := 98) (lb := #[.pointer (some ⟨b2, 0, none⟩), .pointer (some ⟨b5, 0, none⟩)]) rfl (enters_of Tryd.func98 (by kernel_rfl) rfl)
    (moves_hands 6 (by omega) b2 b5 s t ht h1 h6 w2) (Below.refl _ _)
    (SI w w2.heap.size b2 b5 s t x y N c N d l1 l2) (fun _ _ => False) (SI.own (by omega)) (fun _ _ _ _ h _ _ => h) ?keep ?init ?a1 ?assign ?body ?done ?stop
  case keep => exact fun pre W h => h.m
  case init => exact hS0.out
  case assign =>
    intro l x W K' hK'
    simp only [mvV] at hK' ⊢
    gi_wp2
    exact hK'
  case stop => exact fun _ _ _ _ _ h _ => h.elim
  case body =>
    rintro l pre ⟨a, b⟩ W hI hpre
    have hmem : (a, b) ∈ Pl.mvs s t (s * s) := hpre.subset (by simp)
    obtain ⟨ha, hb⟩ := Pl.mvs_mem hmem
    simp only at ha hb
    have hb3 : b < s * s := by rw [hb]; exact Pl.tk_lt h6 ha ht
    rw [hN] at ha hb3
    have hplen : pre.length < 36 := by
      have h := hpre.length_le
      rw [List.length_append] at h
      have h2 : (Pl.mvs s t (s * s)).length = s * s := by unfold Pl.mvs; simp
      rw [h2, hN] at h
      simp at h
      omega
    obtain ⟨x', rfl, hcx⟩ := hx.out a (by have := hl1.out; omega)
    obtain ⟨y', rfl, hcy⟩ := hy.out b (by have := hl2.out; omega)
    have hv1 := hf1.out (l1.getD a 0) (by rw [List.getD, List.getElem?_eq_getElem (by have := hl1.out; omega)]; exact List.getElem_mem _)
    have hv2 := hf2.out (l2.getD b 0) (by rw [List.getD, List.getElem?_eq_getElem (by have := hl2.out; omega)]; exact List.getElem_mem _)
    have hsn : Hid ((pre ++ [(a, b)]).map (Pl.smF l1 l2) = pre.map (Pl.smF l1 l2) ++ [l1.getD a 0 + l2.getD b 0]) := Lib.hid (by rw [List.map_append]; rfl)
    obtain ⟨z1, hz1'⟩ : ∃ z1, l1.getD a 0 = z1 := ⟨_, rfl⟩
    obtain ⟨z2, hz2'⟩ : ∃ z2, l2.getD b 0 = z2 := ⟨_, rfl⟩
    have hzz' : Hid (Pl.smF l1 l2 (a, b) = z1 + z2) := Lib.hid (by rw [← hz1', ← hz2']; rfl)
    rw [hz1'] at hcx hv1 hsn
    rw [hz2'] at hcy hv2 hsn
    obtain ⟨v, d9, o9⟩ := hI.v
    obtain ⟨pv, cv, rfl⟩ := ownForm o9
    obtain ⟨pl, hpl⟩ : ∃ pl, pre.length = pl := ⟨_, rfl⟩
    rw [hpl] at d9 o9 hplen
    replace hpl := Lib.hid hpl
    have i1 : (0 : Int) ≤ (a : Int) := by omega
    have i2 : (a : Int) < (N : Int) := by omega
    have i3 : (0 : Int) ≤ (b : Int) := by omega
    have i4 : (b : Int) < (N : Int) := by omega
    have hwz : IntKind.i64.wrap (z1 + z2) = z1 + z2 := by rw [IntWalk.i64_left]; exact IntWalk.wrap64_in _ (by omega)
    have f0 := hI.f
    have X0 : W.drew.cell? ⟨w.heap.size, 0, none⟩ = some (.slice (some x') N c) := hI.c0
    have X1 : W.drew.cell? ⟨w.heap.size + 1, 0, none⟩ = some (.slice (some y') N d) := hI.c1
    have X2 : W.drew.cell? ⟨w.heap.size + 2, 0, none⟩ = some (.slice pv pl cv) := d9
    have X3 : W.drew.cell? (x'.add a) = some (.int .i64 z1) := kept1 hcx hI.b.drew
    have X4 : W.drew.cell? (y'.add b) = some (.int .i64 z2) := kept1 hcy hI.b.drew
    have X5 : W.drew.frozen? ⟨w.heap.size + 2, 0, none⟩ = false := f0
    have O9 : W.drew.ownsRow w2.heap.size 3 1 (.slice pv pl cv) pl ((pre.map (Pl.smF l1 l2)).map fun z => Value.int .i64 z) := o9.drew
    have hIb := Lib.hid hI
    have hszW := hI.z
    clear hcx hcy hz1' hz2' hmem hpre hb hI d9 o9 hS0 hMK
    gi_wp2_with fail
    have S0 : W.drew.cell? ⟨w.heap.size, 0, none⟩ = some (.slice (some x') N c) ∧ W.drew.cell? ⟨w.heap.size + 1, 0, none⟩ = some (.slice (some y') N d) ∧ W.drew.cell? ⟨w.heap.size + 2, 0, none⟩ = some (.slice pv pl cv) ∧ W.drew.cell? (x'.add a) = some (.int .i64 z1) ∧ W.drew.cell? (y'.add b) = some (.int .i64 z2) := ⟨X0, X1, X2, X3, X4⟩
    refine head_round 11 (fun w' => w'.cell? ⟨w.heap.size, 0, none⟩ = some (.slice (some x') N c) ∧ w'.cell? ⟨w.heap.size + 1, 0, none⟩ = some (.slice (some y') N d) ∧ w'.cell? ⟨w.heap.size + 2, 0, none⟩ = some (.slice pv pl cv) ∧ w'.cell? (x'.add a) = some (.int .i64 z1) ∧ w'.cell? (y'.add b) = some (.int .i64 z2)) (fun ⟨_, _, h⟩ => h) rfl (by kernel_rfl) (by kernel_rfl) S0 (fun hHeld => ?_)
    simp only [List.take_succ_cons, List.take_zero, List.drop_succ_cons, List.drop_zero]
    refine wpAnyH_take (i := 0) (v := ?_) rfl (by kernel_rfl) (by kernel_rfl) (by kernel_rfl) (fun _ _ _ h => h) (Or.inl ⟨by rfl, ?_⟩) (by assumption) ?_
    rotate_left 1
    · (intro w hSw; (try dsimp only at hSw); go_simp; all_goals with_reducible rfl)
    try simp only [Act.put, List.setIfInBounds_toArray, List.set_cons_zero, List.set_cons_succ]
    refine wpAnyH_take (i := 1) (v := ?_) rfl (by kernel_rfl) (by kernel_rfl) (by kernel_rfl) (fun _ _ _ h => h) (Or.inl ⟨by rfl, ?_⟩) (by assumption) ?_
    rotate_left 1
    · (intro w hSw; (try dsimp only at hSw); go_simp; all_goals with_reducible rfl)
    try simp only [Act.put, List.setIfInBounds_toArray, List.set_cons_zero, List.set_cons_succ]
    refine wpAnyH_take (i := 2) (v := ?_) rfl (by kernel_rfl) (by kernel_rfl) (by kernel_rfl) (fun _ _ _ h => h) (Or.inl ⟨by rfl, ?_⟩) (by assumption) ?_
    rotate_left 1
    · (intro w hSw; (try dsimp only at hSw); go_simp; all_goals with_reducible rfl)
    try simp only [Act.put, List.setIfInBounds_toArray, List.set_cons_zero, List.set_cons_succ]
    refine wpAnyH_take (i := 3) (v := ?_) rfl (by kernel_rfl) (by kernel_rfl) (by kernel_rfl) (fun _ _ _ h => h) (Or.inl ⟨by rfl, ?_⟩) (by assumption) ?_
    rotate_left 1
    · (intro w hSw; (try dsimp only at hSw); go_simp; all_goals with_reducible rfl)
    try simp only [Act.put, List.setIfInBounds_toArray, List.set_cons_zero, List.set_cons_succ]
    refine wpAnyH_take (i := 4) (v := ?_) rfl (by kernel_rfl) (by kernel_rfl) (by kernel_rfl) (fun _ _ _ h => h) (Or.inl ⟨by rfl, ?_⟩) (by assumption) ?_
    rotate_left 1
    · (intro w hSw; (try dsimp only at hSw); go_simp; all_goals with_reducible rfl)
    try simp only [Act.put, List.setIfInBounds_toArray, List.set_cons_zero, List.set_cons_succ]
    refine wpAnyH_take (i := 5) (v := ?_) rfl (by kernel_rfl) (by kernel_rfl) (by kernel_rfl) (fun _ _ _ h => h) (Or.inl ⟨by rfl, ?_⟩) (by assumption) ?_
    rotate_left 1
    · (intro w hSw; (try dsimp only at hSw); go_simp; all_goals with_reducible rfl)
    try simp only [Act.put, List.setIfInBounds_toArray, List.set_cons_zero, List.set_cons_succ]
    refine wpAnyH_take (i := 6) (v := ?_) rfl (by kernel_rfl) (by kernel_rfl) (by kernel_rfl) (fun _ _ _ h => h) (Or.inl ⟨by rfl, ?_⟩) (by assumption) ?_
    rotate_left 1
    · (intro w hSw; (try dsimp only at hSw); go_simp; all_goals with_reducible rfl)
    try simp only [Act.put, List.setIfInBounds_toArray, List.set_cons_zero, List.set_cons_succ]
    refine wpAnyH_take (i := 7) (v := ?_) rfl (by kernel_rfl) (by kernel_rfl) (by kernel_rfl) (fun _ _ _ h => h) (Or.inl ⟨by rfl, ?_⟩) (by assumption) ?_
    rotate_left 1
    · (intro w hSw; (try dsimp only at hSw); go_simp; all_goals with_reducible rfl)
    try simp only [Act.put, List.setIfInBounds_toArray, List.set_cons_zero, List.set_cons_succ]
    refine wpAnyH_take (i := 8) (v := ?_) rfl (by kernel_rfl) (by kernel_rfl) (by kernel_rfl) (fun _ _ _ h => h) (Or.inl ⟨by rfl, ?_⟩) (by assumption) ?_
    rotate_left 1
    · (intro w hSw; (try dsimp only at hSw); go_simp; all_goals with_reducible rfl)
    try simp only [Act.put, List.setIfInBounds_toArray, List.set_cons_zero, List.set_cons_succ]
    refine wpAnyH_take (i := 9) (v := ?_) rfl (by kernel_rfl) (by kernel_rfl) (by kernel_rfl) (fun _ _ _ h => h) (Or.inl ⟨by rfl, ?_⟩) (by assumption) ?_
    rotate_left 1
    · (intro w hSw; (try dsimp only at hSw); go_simp; all_goals with_reducible rfl)
    try simp only [Act.put, List.setIfInBounds_toArray, List.set_cons_zero, List.set_cons_succ]
    try simp only [List.getElem_toArray, List.getElem_cons_succ, List.getElem_cons_zero, Act.put, List.setIfInBounds_toArray, List.set_cons_zero, List.set_cons_succ]
    have hWb : Below W.heap.size W W.drew := (Below.refl _ _).drew
    have hKA : KeepsOthers W W.drew := KeepsOthers.drew _
    have hIz : Hid (SI w w2.heap.size b2 b5 s t (some x') (some y') N c N d l1 l2 pre W.drew) := Lib.hid ⟨hIb.out.c0, hIb.out.c1, ⟨_, X2, by rw [hpl.out]; exact O9⟩, hIb.out.f, ⟨hIb.out.m.c, hIb.out.m.f0, hIb.out.m.f1⟩, hIb.out.b.drew, hIb.out.z⟩
    generalize W.drew = Z at *
    have AP := Lib.hid (fun (w4 : World) (v' : Value) (ob : Obj) => hIz.out.app (w4 := w4) (v' := v') (ob := ob) (e := (a, b)) (by omega) ⟨⟨hb2', hb5⟩, hb23⟩ X2 (by rw [hpl.out]; exact O9))
    rw [hpl.out] at AP
    rw [show Pl.smF l1 l2 (a, b) = z1 + z2 from hzz'.out] at AP
    obtain ⟨XS, hXS⟩ : ∃ XS, ((pre.map (Pl.smF l1 l2)).map fun z => Value.int .i64 z) = XS := ⟨_, rfl⟩
    rw [hXS] at O9 AP
    clear hXS
    have hzZ : w2.heap.size ≤ Z.heap.size := hIz.out.z
    have hba := below_alloc (Below.refl Z.heap.size Z) (Obj.cells #[.int .i64 (z1 + z2)] 3)
    have S4 : (Z.alloc (Obj.cells #[.int .i64 (z1 + z2)] 3)).cell? ⟨w.heap.size, 0, none⟩ = some (.slice (some x') N c) ∧ (Z.alloc (Obj.cells #[.int .i64 (z1 + z2)] 3)).cell? ⟨w.heap.size + 1, 0, none⟩ = some (.slice (some y') N d) ∧ (Z.alloc (Obj.cells #[.int .i64 (z1 + z2)] 3)).cell? ⟨w.heap.size + 2, 0, none⟩ = some (.slice pv pl cv) ∧ (Z.alloc (Obj.cells #[.int .i64 (z1 + z2)] 3)).cell? (x'.add a) = some (.int .i64 z1) ∧ (Z.alloc (Obj.cells #[.int .i64 (z1 + z2)] 3)).cell? (y'.add b) = some (.int .i64 z2) := ⟨kept1 X0 hba, kept1 X1 hba, kept1 X2 hba, kept1 X3 hba, kept1 X4 hba⟩
    refine wpAnyH_ready (rs := [10]) (by kernel_rfl) (by simp) ?_
    refine AllReadyH.cons rfl (fun K hK => ?_) ?_
    rotate_left 1
    · exact AllReadyH.nil
    go_simp
    refine hK.out _ _ S4 (fun hHx => ?_)
    clear hK K S4 hba hHx
    try simp only [List.getElem_toArray, List.getElem_cons_succ, List.getElem_cons_zero, Act.put, List.setIfInBounds_toArray, List.set_cons_zero, List.set_cons_succ]
    refine wpAnyH_done (by kernel_rfl) ?_ _
    show wpList _ _ _ _ _ _
    clear X0 X1 X3 X4 hwz hIb hWb S0 hHeld
    go_wp2_with (first
      | (at_builtin; refine wpList_append_own_at _ rfl (.tmp 17) (.tmp 27) 22 rfl w2.heap.size 3 i0 (.int .i64 0) 1 8 Tryd.underlying22 hi hz0 hz1 hz2 rfl (by decide) _ _ _ rfl (O9.alloc _) ⟨Z.heap.size, 0, none⟩ 1 1 [.int .i64 (z1 + z2)] rfl rfl ?c1 ?c2 ?c3 ?c4 ?c5 ?_)
      | fail)
    case c2 => first | rfl | (intro u hu; simp at hu; subst hu; rfl)
    case c3 => unfold maxLen; omega
    case c4 => omega
    case c5 => first | omega | (simp; omega)
    case c1 => first | (intro j u hj; match j, hj with | 0, hj => (simp at hj; subst hj; simp [Addr.add])) | (simp [Addr.add, go_sem])
    intro v'' w4 hown' hgrow hnn hat
    obtain ⟨r1, r2, hIn, hKn⟩ := AP.out _ _ _ hown' hgrow
    obtain ⟨pp, cpp, rfl⟩ := ownForm hown'
    have hfin := (hKA.trans hKn)
    have hf1 := hfin.from w2.heap.size
    have hf2 := hfin.walks
    clear hown' hgrow hnn hat AP O9 X2 X5 hKA hKn hfin hIz
    go_wp2
    all_goals exact ⟨hf1, hf2, hIn⟩
  case done =>
    rintro E W hE hI hD
    obtain ⟨v, d9, o9⟩ := hI.v
    have hml : (Pl.mvs s t (s * s)).length = N := by unfold Pl.mvs; simp [hN]
    rw [hml] at o9
    obtain ⟨pv, cv, rfl⟩ := ownForm o9
    have hbW := hI.b
    have hEw : w.heap.size ≤ E := by omega
    have hEs : E < W.heap.size := (Array.getElem?_eq_some_iff.1 hD).1
    have o8 := Lib.hid o9
    replace hD := Lib.hid hD
    clear hI o9 hS0 hMK
    gi_wp2
    refine leaves_marks [E] W (by simp) (fun r hr => by simp at hr; subst hr; exact hD.out) ?_
    have fb := freed_but [E] W
    have hcs : ∀ g, (Value.slice pv N cv).ownBlock = some g → ¬ g ∈ [E] := fun g hg hm => by
      simp at hm
      subst hm
      have := ownCells o8.out hg hD.out
      cases this
    refine ⟨.slice pv N cv, by simp [results, Tryd.results45, go_sem], _, rfl, Lib.hid (ownBase (ownBut o8.out fb hcs) (by omega)), hbW.trans (fb.below hbW.size (fun g hg hm => by simp at hm; omega))⟩
end Go.Proofs.YtidcedilfhmllaaDoor
