/- What the claims of layer 3 share, part 22: several texts one behind the other. -/
import Derived.Test.YtidcedilfhmllaaDoorZ21
import Derived.Test.YtidcedilfhmllaaDoorZ20
set_option linter.unusedSimpArgs false
set_option linter.unusedVariables false
/- Contracts of package plate: with, With of valid shops. -/
namespace Go.Proofs.YtidcedilfhmllaaDoor
open Go.RowKit

/-- the cells of workings -/
def wkCells (L : List Pl.Wk) : List Value := L.flatMap fun l => [.int .i64 l.a, .int .i64 l.b, .int .i64 l.t]
theorem wkCells_len (L : List Pl.Wk) : (wkCells L).length = L.length * 3 := by
  induction L with
  | nil => rfl
  | cons l r ih => unfold wkCells at *; rw [List.flatMap_cons, List.length_append, ih]; simp; omega
theorem wkCells_append (L L2 : List Pl.Wk) : wkCells (L ++ L2) = wkCells L ++ wkCells L2 := by unfold wkCells; rw [List.flatMap_append]
theorem wkCells_get : ∀ {L : List Pl.Wk} {k : Nat}, k < L.length → (wkCells L)[k * 3]? = some (.int .i64 (L.getD k Pl.noW).a) ∧ (wkCells L)[k * 3 + 1]? = some (.int .i64 (L.getD k Pl.noW).b) ∧ (wkCells L)[k * 3 + 2]? = some (.int .i64 (L.getD k Pl.noW).t)
  | [], _, h => absurd h (by simp)
  | l :: r, 0, _ => ⟨rfl, rfl, rfl⟩
  | l :: r, k + 1, h => by
    have ih := wkCells_get (L := r) (k := k) (by simpa using h)
    have e : wkCells (l :: r) = .int .i64 l.a :: .int .i64 l.b :: .int .i64 l.t :: wkCells r := rfl
    have e0 : (k + 1) * 3 = k * 3 + 1 + 1 + 1 := by omega
    rw [e, e0]
    simp only [List.getElem?_cons_succ]
    exact ⟨ih.1, ih.2.1, ih.2.2⟩
theorem add_off {x : Addr} {k j : Nat} (h : 0 < j) : x.add (k + j) = ⟨(x.add k).block, (x.add k).off + j, none⟩ := by
  unfold Addr.add
  rw [if_neg (by omega)]
  split
  · rename_i e; subst e; simp
  · simp; omega
theorem wks_cells {w : World} {x : Addr} {L : List Pl.Wk} (h : WksAt w (some x) L) (j : Nat) (u : Value) (hu : (wkCells L)[j]? = some u) : w.cell? (x.add j) = some u := by
  have hj : j < L.length * 3 := by rw [← wkCells_len]; exact (List.getElem?_eq_some_iff.1 hu).1
  obtain ⟨k, r, rfl, hr⟩ : ∃ k r, j = k * 3 + r ∧ r < 3 := ⟨j / 3, j % 3, by omega, Nat.mod_lt _ (by decide)⟩
  obtain ⟨y, hy, h1, h2, h3⟩ := h k (by omega)
  obtain rfl := Option.some.inj hy
  obtain ⟨g1, g2, g3⟩ := wkCells_get (L := L) (k := k) (by omega)
  rcases (by omega : r = 0 ∨ r = 1 ∨ r = 2) with rfl | rfl | rfl
  · rw [Nat.add_zero] at hu ⊢
    rw [g1] at hu
    rw [h1]; exact hu
  · rw [g2] at hu
    rw [add_off (by omega), h2]; exact hu
  · rw [g3] at hu
    rw [add_off (by omega), h3]; exact hu
theorem wks_of_owns {w : World} {B : Nat} {v : Value} {L : List Pl.Wk} (h : w.ownsRow B 61 3 v L.length (wkCells L)) : ∃ a cap, v = .slice a L.length cap ∧ WksAt w a L ∧ (a = none → cap = 0) := by
  obtain ⟨_, h2⟩ := h
  rcases h2 with ⟨hv, h0⟩ | ⟨g, cap, cur, hv, hb, hg, hle, hcm, hs, ht⟩
  · exact ⟨none, 0, by rw [hv, h0], fun k hk => by omega, fun _ => rfl⟩
  · refine ⟨_, cap, hv, fun k hk => ⟨_, rfl, ?_⟩, fun h => by cases h⟩
    have hc : ∀ j u, (wkCells L)[j]? = some u → w.cell? ⟨g, j, none⟩ = some u := by
      intro j u hu
      have hj : j < L.length * 3 := by rw [← wkCells_len]; exact (List.getElem?_eq_some_iff.1 hu).1
      rw [← ht, List.getElem?_take_of_lt hj, Array.getElem?_toList] at hu
      simp [World.cell?, hg, hu]
    obtain ⟨g1, g2, g3⟩ := wkCells_get hk
    have e : (⟨g, 0, none⟩ : Addr).add (k * 3) = ⟨g, k * 3, none⟩ := by unfold Addr.add; split <;> simp_all
    rw [e]
    exact ⟨hc _ _ g1, hc _ _ g2, hc _ _ g3⟩
theorem wk_one (L : List Pl.Wk) : ∀ u ∈ wkCells L, u.oneCell' = true := by
  intro u hu
  unfold wkCells at hu
  obtain ⟨l, _, h⟩ := List.mem_flatMap.1 hu
  simp at h
  rcases h with rfl | rfl | rfl <;> rfl


theorem cs_of_wks {w : World} {a : Option Addr} {L : List Pl.Wk} (h : WksAt w a L) : CsAt w a (wkCells L) := fun j u hu => by
  cases a with
  | none =>
    have hj := (List.getElem?_eq_some_iff.1 hu).1
    rw [wkCells_len] at hj
    obtain ⟨x, hx, _⟩ := h 0 (by omega)
    cases hx
  | some x => exact ⟨x, rfl, wks_cells h j u hu⟩

set_option maxRecDepth 100000 in
set_option maxHeartbeats 4000000 in
theorem with_ok (s m : Int) (a : Option Addr) (q cap : Nat) (ha : Hid (a = none → cap = 0)) (L : List Pl.Wk) (hq : L.length = q) (hq2 : q ≤ 900) (x : Pl.Wk) (w : World) (hL : Hid (WksAt w a L)) :
    Calls Tryd.prog 59 #[.agg #[.int .i64 s, .int .i64 m, .slice a q cap], .agg #[.int .i64 x.a, .int .i64 x.b, .int .i64 x.t]] w fun e w' => ∃ a' c', e = .returned (.agg #[.int .i64 s, .int .i64 m, .slice a' (q + 1) c']) ∧ Hid (WksAt w' a' (L ++ [x])) ∧ Hid (a' = none → c' = 0) ∧ Hid (∀ y, a' = some y → w.heap.size ≤ y.block) ∧ Below w.heap.size w w' := by
  obtain ⟨xa, xb, xt⟩ := x
  have HC := Lib.hid (fun (ab : Nat) (W : World) (b : Option Addr) (hb : Below w.heap.size w W) (h2 : CsAt W b (wkCells [⟨xa, xb, xt⟩])) (hbn : b = none → 1 = 0) (c0 : W.cell? ⟨ab, 0, none⟩ = some (.slice a q cap)) (c1 : W.cell? ⟨ab, 1, none⟩ = some (.slice b 1 1)) => concatWk_any ab a b q 1 cap 1 (by omega) (by omega) (wkCells L) (wkCells [⟨xa, xb, xt⟩]) (Lib.hid (by rw [wkCells_len, hq])) (Lib.hid rfl) (Lib.hid (wk_one L)) (Lib.hid (wk_one _)) ha (Lib.hid hbn) W (Lib.hid (cs_of_wks (hL.out.below hb))) (Lib.hid h2) c0 c1)
  simp only
  go_enter Tryd.func59, Tryd.ntmps59
  go_wp2_with fail
  have k0 : (((((w.alloc (Obj.cells #[.int .i64 s, .int .i64 m, .slice a q cap] 34)).alloc (Obj.cells #[.int .i64 xa, .int .i64 xb, .int .i64 xt] 61)).alloc (Obj.cells #[.int .i64 0, .int .i64 0, .slice none 0 0] 34)).alloc (Obj.cells #[.int .i64 xa, .int .i64 xb, .int .i64 xt] 61)).alloc (Obj.cells #[.slice a q cap, .slice (some ⟨w.heap.size + 1 + 1 + 1, 0, none⟩) 1 1] 32)).cell? ⟨w.heap.size, 0, none⟩ = some (.int .i64 s) := by simp [go_sem]
  have k1 : (((((w.alloc (Obj.cells #[.int .i64 s, .int .i64 m, .slice a q cap] 34)).alloc (Obj.cells #[.int .i64 xa, .int .i64 xb, .int .i64 xt] 61)).alloc (Obj.cells #[.int .i64 0, .int .i64 0, .slice none 0 0] 34)).alloc (Obj.cells #[.int .i64 xa, .int .i64 xb, .int .i64 xt] 61)).alloc (Obj.cells #[.slice a q cap, .slice (some ⟨w.heap.size + 1 + 1 + 1, 0, none⟩) 1 1] 32)).cell? ⟨w.heap.size, 1, none⟩ = some (.int .i64 m) := by simp [go_sem]
  have k2 : (((((w.alloc (Obj.cells #[.int .i64 s, .int .i64 m, .slice a q cap] 34)).alloc (Obj.cells #[.int .i64 xa, .int .i64 xb, .int .i64 xt] 61)).alloc (Obj.cells #[.int .i64 0, .int .i64 0, .slice none 0 0] 34)).alloc (Obj.cells #[.int .i64 xa, .int .i64 xb, .int .i64 xt] 61)).alloc (Obj.cells #[.slice a q cap, .slice (some ⟨w.heap.size + 1 + 1 + 1, 0, none⟩) 1 1] 32)).cell? ⟨w.heap.size, 2, none⟩ = some (.slice a q cap) := by simp [go_sem]
  have kf : (((((w.alloc (Obj.cells #[.int .i64 s, .int .i64 m, .slice a q cap] 34)).alloc (Obj.cells #[.int .i64 xa, .int .i64 xb, .int .i64 xt] 61)).alloc (Obj.cells #[.int .i64 0, .int .i64 0, .slice none 0 0] 34)).alloc (Obj.cells #[.int .i64 xa, .int .i64 xb, .int .i64 xt] 61)).alloc (Obj.cells #[.slice a q cap, .slice (some ⟨w.heap.size + 1 + 1 + 1, 0, none⟩) 1 1] 32)).frozen? ⟨w.heap.size, 2, none⟩ = false := by simp [go_sem]
  have r0 : (((((w.alloc (Obj.cells #[.int .i64 s, .int .i64 m, .slice a q cap] 34)).alloc (Obj.cells #[.int .i64 xa, .int .i64 xb, .int .i64 xt] 61)).alloc (Obj.cells #[.int .i64 0, .int .i64 0, .slice none 0 0] 34)).alloc (Obj.cells #[.int .i64 xa, .int .i64 xb, .int .i64 xt] 61)).alloc (Obj.cells #[.slice a q cap, .slice (some ⟨w.heap.size + 1 + 1 + 1, 0, none⟩) 1 1] 32)).cell? ⟨w.heap.size + 1 + 1, 0, none⟩ = some (.int .i64 0) := by simp [go_sem]
  have r1 : (((((w.alloc (Obj.cells #[.int .i64 s, .int .i64 m, .slice a q cap] 34)).alloc (Obj.cells #[.int .i64 xa, .int .i64 xb, .int .i64 xt] 61)).alloc (Obj.cells #[.int .i64 0, .int .i64 0, .slice none 0 0] 34)).alloc (Obj.cells #[.int .i64 xa, .int .i64 xb, .int .i64 xt] 61)).alloc (Obj.cells #[.slice a q cap, .slice (some ⟨w.heap.size + 1 + 1 + 1, 0, none⟩) 1 1] 32)).cell? ⟨w.heap.size + 1 + 1, 1, none⟩ = some (.int .i64 0) := by simp [go_sem]
  have r2 : (((((w.alloc (Obj.cells #[.int .i64 s, .int .i64 m, .slice a q cap] 34)).alloc (Obj.cells #[.int .i64 xa, .int .i64 xb, .int .i64 xt] 61)).alloc (Obj.cells #[.int .i64 0, .int .i64 0, .slice none 0 0] 34)).alloc (Obj.cells #[.int .i64 xa, .int .i64 xb, .int .i64 xt] 61)).alloc (Obj.cells #[.slice a q cap, .slice (some ⟨w.heap.size + 1 + 1 + 1, 0, none⟩) 1 1] 32)).cell? ⟨w.heap.size + 1 + 1, 2, none⟩ = some (.slice none 0 0) := by simp [go_sem]
  have rf0 : (((((w.alloc (Obj.cells #[.int .i64 s, .int .i64 m, .slice a q cap] 34)).alloc (Obj.cells #[.int .i64 xa, .int .i64 xb, .int .i64 xt] 61)).alloc (Obj.cells #[.int .i64 0, .int .i64 0, .slice none 0 0] 34)).alloc (Obj.cells #[.int .i64 xa, .int .i64 xb, .int .i64 xt] 61)).alloc (Obj.cells #[.slice a q cap, .slice (some ⟨w.heap.size + 1 + 1 + 1, 0, none⟩) 1 1] 32)).frozen? ⟨w.heap.size + 1 + 1, 0, none⟩ = false := by simp [go_sem]
  have rf1 : (((((w.alloc (Obj.cells #[.int .i64 s, .int .i64 m, .slice a q cap] 34)).alloc (Obj.cells #[.int .i64 xa, .int .i64 xb, .int .i64 xt] 61)).alloc (Obj.cells #[.int .i64 0, .int .i64 0, .slice none 0 0] 34)).alloc (Obj.cells #[.int .i64 xa, .int .i64 xb, .int .i64 xt] 61)).alloc (Obj.cells #[.slice a q cap, .slice (some ⟨w.heap.size + 1 + 1 + 1, 0, none⟩) 1 1] 32)).frozen? ⟨w.heap.size + 1 + 1, 1, none⟩ = false := by simp [go_sem]
  have rf2 : (((((w.alloc (Obj.cells #[.int .i64 s, .int .i64 m, .slice a q cap] 34)).alloc (Obj.cells #[.int .i64 xa, .int .i64 xb, .int .i64 xt] 61)).alloc (Obj.cells #[.int .i64 0, .int .i64 0, .slice none 0 0] 34)).alloc (Obj.cells #[.int .i64 xa, .int .i64 xb, .int .i64 xt] 61)).alloc (Obj.cells #[.slice a q cap, .slice (some ⟨w.heap.size + 1 + 1 + 1, 0, none⟩) 1 1] 32)).frozen? ⟨w.heap.size + 1 + 1, 2, none⟩ = false := by simp [go_sem]
  have d0 : (((((w.alloc (Obj.cells #[.int .i64 s, .int .i64 m, .slice a q cap] 34)).alloc (Obj.cells #[.int .i64 xa, .int .i64 xb, .int .i64 xt] 61)).alloc (Obj.cells #[.int .i64 0, .int .i64 0, .slice none 0 0] 34)).alloc (Obj.cells #[.int .i64 xa, .int .i64 xb, .int .i64 xt] 61)).alloc (Obj.cells #[.slice a q cap, .slice (some ⟨w.heap.size + 1 + 1 + 1, 0, none⟩) 1 1] 32)).cell? ⟨w.heap.size + 1 + 1 + 1 + 1, 0, none⟩ = some (.slice a q cap) := by simp [go_sem]
  have d1 : (((((w.alloc (Obj.cells #[.int .i64 s, .int .i64 m, .slice a q cap] 34)).alloc (Obj.cells #[.int .i64 xa, .int .i64 xb, .int .i64 xt] 61)).alloc (Obj.cells #[.int .i64 0, .int .i64 0, .slice none 0 0] 34)).alloc (Obj.cells #[.int .i64 xa, .int .i64 xb, .int .i64 xt] 61)).alloc (Obj.cells #[.slice a q cap, .slice (some ⟨w.heap.size + 1 + 1 + 1, 0, none⟩) 1 1] 32)).cell? ⟨w.heap.size + 1 + 1 + 1 + 1, 1, none⟩ = some (.slice (some ⟨w.heap.size + 1 + 1 + 1, 0, none⟩) 1 1) := by simp [go_sem]
  have e0 : (((((w.alloc (Obj.cells #[.int .i64 s, .int .i64 m, .slice a q cap] 34)).alloc (Obj.cells #[.int .i64 xa, .int .i64 xb, .int .i64 xt] 61)).alloc (Obj.cells #[.int .i64 0, .int .i64 0, .slice none 0 0] 34)).alloc (Obj.cells #[.int .i64 xa, .int .i64 xb, .int .i64 xt] 61)).alloc (Obj.cells #[.slice a q cap, .slice (some ⟨w.heap.size + 1 + 1 + 1, 0, none⟩) 1 1] 32)).cell? ⟨w.heap.size + 1 + 1 + 1, 0, none⟩ = some (.int .i64 xa) := by simp [go_sem]
  have e1 : (((((w.alloc (Obj.cells #[.int .i64 s, .int .i64 m, .slice a q cap] 34)).alloc (Obj.cells #[.int .i64 xa, .int .i64 xb, .int .i64 xt] 61)).alloc (Obj.cells #[.int .i64 0, .int .i64 0, .slice none 0 0] 34)).alloc (Obj.cells #[.int .i64 xa, .int .i64 xb, .int .i64 xt] 61)).alloc (Obj.cells #[.slice a q cap, .slice (some ⟨w.heap.size + 1 + 1 + 1, 0, none⟩) 1 1] 32)).cell? ⟨w.heap.size + 1 + 1 + 1, 1, none⟩ = some (.int .i64 xb) := by simp [go_sem]
  have e2 : (((((w.alloc (Obj.cells #[.int .i64 s, .int .i64 m, .slice a q cap] 34)).alloc (Obj.cells #[.int .i64 xa, .int .i64 xb, .int .i64 xt] 61)).alloc (Obj.cells #[.int .i64 0, .int .i64 0, .slice none 0 0] 34)).alloc (Obj.cells #[.int .i64 xa, .int .i64 xb, .int .i64 xt] 61)).alloc (Obj.cells #[.slice a q cap, .slice (some ⟨w.heap.size + 1 + 1 + 1, 0, none⟩) 1 1] 32)).cell? ⟨w.heap.size + 1 + 1 + 1, 2, none⟩ = some (.int .i64 xt) := by simp [go_sem]
  have hX : Below w.heap.size w (((((w.alloc (Obj.cells #[.int .i64 s, .int .i64 m, .slice a q cap] 34)).alloc (Obj.cells #[.int .i64 xa, .int .i64 xb, .int .i64 xt] 61)).alloc (Obj.cells #[.int .i64 0, .int .i64 0, .slice none 0 0] 34)).alloc (Obj.cells #[.int .i64 xa, .int .i64 xb, .int .i64 xt] 61)).alloc (Obj.cells #[.slice a q cap, .slice (some ⟨w.heap.size + 1 + 1 + 1, 0, none⟩) 1 1] 32)) := below_alloc (below_alloc (below_alloc (below_alloc (below_alloc (Below.refl _ _) _) _) _) _) _
  have hz : w.heap.size + 5 ≤ (((((w.alloc (Obj.cells #[.int .i64 s, .int .i64 m, .slice a q cap] 34)).alloc (Obj.cells #[.int .i64 xa, .int .i64 xb, .int .i64 xt] 61)).alloc (Obj.cells #[.int .i64 0, .int .i64 0, .slice none 0 0] 34)).alloc (Obj.cells #[.int .i64 xa, .int .i64 xb, .int .i64 xt] 61)).alloc (Obj.cells #[.slice a q cap, .slice (some ⟨w.heap.size + 1 + 1 + 1, 0, none⟩) 1 1] 32)).heap.size := by simp
  have hcs : CsAt (((((w.alloc (Obj.cells #[.int .i64 s, .int .i64 m, .slice a q cap] 34)).alloc (Obj.cells #[.int .i64 xa, .int .i64 xb, .int .i64 xt] 61)).alloc (Obj.cells #[.int .i64 0, .int .i64 0, .slice none 0 0] 34)).alloc (Obj.cells #[.int .i64 xa, .int .i64 xb, .int .i64 xt] 61)).alloc (Obj.cells #[.slice a q cap, .slice (some ⟨w.heap.size + 1 + 1 + 1, 0, none⟩) 1 1] 32)) (some ⟨w.heap.size + 1 + 1 + 1, 0, none⟩) (wkCells [⟨xa, xb, xt⟩]) := fun j u hu => by
    refine ⟨_, rfl, ?_⟩
    match j, hu with
    | 0, hu => simp [wkCells] at hu; subst hu; exact e0
    | 1, hu => simp [wkCells] at hu; subst hu; exact e1
    | 2, hu => simp [wkCells] at hu; subst hu; exact e2
    | j + 3, hu => simp [wkCells] at hu
  clear e0 e1 e2
  generalize ((((w.alloc (Obj.cells #[.int .i64 s, .int .i64 m, .slice a q cap] 34)).alloc (Obj.cells #[.int .i64 xa, .int .i64 xb, .int .i64 xt] 61)).alloc (Obj.cells #[.int .i64 0, .int .i64 0, .slice none 0 0] 34)).alloc (Obj.cells #[.int .i64 xa, .int .i64 xb, .int .i64 xt] 61)).alloc (Obj.cells #[.slice a q cap, .slice (some ⟨w.heap.size + 1 + 1 + 1, 0, none⟩) 1 1] 32) = Y at *
  refine (HC.out _ Y _ hX hcs (fun h => by cases h) d0 d1).mono ?_
  rintro e w2 ⟨v, rfl, ho, hb2⟩
  replace k0 := kept1 k0 hb2
  replace k1 := kept1 k1 hb2
  replace k2 := kept1 k2 hb2
  have kf' : w2.frozen? ⟨w.heap.size, 2, none⟩ = false := (hb2.frozen (p := ⟨w.heap.size, 2, none⟩) (by show w.heap.size < Y.heap.size; omega)).trans kf
  replace r0 := kept1 r0 hb2
  replace r1 := kept1 r1 hb2
  replace r2 := kept1 r2 hb2
  have rf0' : w2.frozen? ⟨w.heap.size + 1 + 1, 0, none⟩ = false := (hb2.frozen (p := ⟨w.heap.size + 1 + 1, 0, none⟩) (by show w.heap.size + 1 + 1 < Y.heap.size; omega)).trans rf0
  have rf1' : w2.frozen? ⟨w.heap.size + 1 + 1, 1, none⟩ = false := (hb2.frozen (p := ⟨w.heap.size + 1 + 1, 1, none⟩) (by show w.heap.size + 1 + 1 < Y.heap.size; omega)).trans rf1
  have rf2' : w2.frozen? ⟨w.heap.size + 1 + 1, 2, none⟩ = false := (hb2.frozen (p := ⟨w.heap.size + 1 + 1, 2, none⟩) (by show w.heap.size + 1 + 1 < Y.heap.size; omega)).trans rf2
  have hlen : (wkCells L ++ wkCells [⟨xa, xb, xt⟩]) = wkCells (L ++ [⟨xa, xb, xt⟩]) := (wkCells_append _ _).symm
  have hll : (L ++ [(⟨xa, xb, xt⟩ : Pl.Wk)]).length = q + 1 := by rw [List.length_append, hq]; rfl
  have ho2 := ho.out
  rw [hlen, ← hll] at ho2
  obtain ⟨a', c', rfl, hW, han⟩ := wks_of_owns ho2
  rw [hll] at ho2 ⊢
  have hbf : But (fun k => k = w.heap.size ∨ k = w.heap.size + 1 + 1) w2 ((((w2.setCell ⟨w.heap.size, 2, none⟩ (.slice a' (q + 1) c')).setCell ⟨w.heap.size + 1 + 1, 0, none⟩ (.int .i64 s)).setCell ⟨w.heap.size + 1 + 1, 1, none⟩ (.int .i64 m)).setCell ⟨w.heap.size + 1 + 1, 2, none⟩ (.slice a' (q + 1) c')) := ((((But.refl (fun k => k = w.heap.size ∨ k = w.heap.size + 1 + 1) w2).setCell (p := ⟨w.heap.size, 2, none⟩) (.inr (.inl rfl)) _).setCell (p := ⟨w.heap.size + 1 + 1, 0, none⟩) (.inr (.inr rfl)) _).setCell (p := ⟨w.heap.size + 1 + 1, 1, none⟩) (.inr (.inr rfl)) _).setCell (p := ⟨w.heap.size + 1 + 1, 2, none⟩) (.inr (.inr rfl)) _
  have hof := ownBut ho2 hbf (fun g hg e => by have := ownFar ho2 hg; omega)
  have hWf : Hid (WksAt ((((w2.setCell ⟨w.heap.size, 2, none⟩ (.slice a' (q + 1) c')).setCell ⟨w.heap.size + 1 + 1, 0, none⟩ (.int .i64 s)).setCell ⟨w.heap.size + 1 + 1, 1, none⟩ (.int .i64 m)).setCell ⟨w.heap.size + 1 + 1, 2, none⟩ (.slice a' (q + 1) c')) a' (L ++ [⟨xa, xb, xt⟩])) := Lib.hid (by
    rw [← hll] at hof
    obtain ⟨a9, c9, e9, h9, _⟩ := wks_of_owns hof
    simp only [Value.slice.injEq] at e9
    obtain ⟨rfl, _, _⟩ := e9
    rw [hll] at h9
    exact h9)
  have hb9 := (hX.trans (hb2.mono hX.size))
  have hbz := hb9.trans (hbf.below hb9.size (fun k hk e => by omega))
  have z0 : ((((w2.setCell ⟨w.heap.size, 2, none⟩ (.slice a' (q + 1) c')).setCell ⟨w.heap.size + 1 + 1, 0, none⟩ (.int .i64 s)).setCell ⟨w.heap.size + 1 + 1, 1, none⟩ (.int .i64 m)).setCell ⟨w.heap.size + 1 + 1, 2, none⟩ (.slice a' (q + 1) c')).cell? ⟨w.heap.size + 1 + 1, 0, none⟩ = some (.int .i64 s) := by simp [go_sem, r0]
  have z1 : ((((w2.setCell ⟨w.heap.size, 2, none⟩ (.slice a' (q + 1) c')).setCell ⟨w.heap.size + 1 + 1, 0, none⟩ (.int .i64 s)).setCell ⟨w.heap.size + 1 + 1, 1, none⟩ (.int .i64 m)).setCell ⟨w.heap.size + 1 + 1, 2, none⟩ (.slice a' (q + 1) c')).cell? ⟨w.heap.size + 1 + 1, 1, none⟩ = some (.int .i64 m) := by simp [go_sem, r1]
  have z2 : ((((w2.setCell ⟨w.heap.size, 2, none⟩ (.slice a' (q + 1) c')).setCell ⟨w.heap.size + 1 + 1, 0, none⟩ (.int .i64 s)).setCell ⟨w.heap.size + 1 + 1, 1, none⟩ (.int .i64 m)).setCell ⟨w.heap.size + 1 + 1, 2, none⟩ (.slice a' (q + 1) c')).cell? ⟨w.heap.size + 1 + 1, 2, none⟩ = some (.slice a' (q + 1) c') := by simp [go_sem, r2]
  have e2 : (w2.setCell ⟨w.heap.size, 2, none⟩ (.slice a' (q + 1) c')).cell? ⟨w.heap.size, 2, none⟩ = some (.slice a' (q + 1) c') := by simp [go_sem, k2]
  have hfar : Hid (∀ y, a' = some y → w.heap.size ≤ y.block) := Lib.hid (fun y e => by
    subst e
    have := ownFar ho2 (g := y.block) rfl
    omega)
  clear ho ho2 hof hbf hb9 HC
  replace han := Lib.hid han
  go_wp2
  generalize (((w2.setCell ⟨w.heap.size, 2, none⟩ (.slice a' (q + 1) c')).setCell ⟨w.heap.size + 1 + 1, 0, none⟩ (.int .i64 s)).setCell ⟨w.heap.size + 1 + 1, 1, none⟩ (.int .i64 m)).setCell ⟨w.heap.size + 1 + 1, 2, none⟩ (.slice a' (q + 1) c') = V at *
  refine bodyPost_ret (v := .agg #[.int .i64 s, .int .i64 m, .slice a' (q + 1) c']) (by simp [results, Tryd.results59, go_sem, z0, z1, z2]) rfl ?_
  exact ⟨a', c', rfl, hWf, han, hfar, hbz⟩
end Go.Proofs.YtidcedilfhmllaaDoor

/- Contracts of package plate: With of valid shops. -/
namespace Go.Proofs.YtidcedilfhmllaaDoor
open Go.RowKit

set_option maxRecDepth 100000 in
set_option maxHeartbeats 4000000 in
theorem pWith_ok (s m : Int) (a : Option Addr) (q cap : Nat) (ha : Hid (a = none → cap = 0)) (L : List Pl.Wk) (hq : L.length = q) (hq2 : q ≤ 900) (x : Pl.Wk) (h1 : Pl.chk s m L = 0) (h2 : Pl.chk s m (L ++ [x]) = 0) (w : World) (hL : Hid (WksAt w a L)) :
    Calls Tryd.prog 31 #[.agg #[.int .i64 s, .int .i64 m, .slice a q cap], .agg #[.int .i64 x.a, .int .i64 x.b, .int .i64 x.t]] w fun e w' => ∃ a' c', e = .returned (.tuple #[.agg #[.int .i64 s, .int .i64 m, .slice a' (q + 1) c'], .int .i64 0]) ∧ Hid (WksAt w' a' (L ++ [x])) ∧ Hid (a' = none → c' = 0) ∧ Below w.heap.size w w' := by
  have HC := Lib.hid fun (W : World) (hb : Below w.heap.size w W) => (show Calls Tryd.prog 62 #[.agg #[.int .i64 s, .int .i64 m, .slice a q cap]] W fun e w' => e = .returned (.int .i64 0) ∧ Below W.heap.size W w' from by
    have h := pCheck_any s m a cap L W (Lib.hid (hL.out.below hb))
    rw [h1, hq] at h
    exact h)
  have hql : (L ++ [x]).length = q + 1 := by rw [List.length_append, hq]; rfl
  have HD := Lib.hid fun (W : World) (a' : Option Addr) (c' : Nat) (hW : Hid (WksAt W a' (L ++ [x]))) => (show Calls Tryd.prog 62 #[.agg #[.int .i64 s, .int .i64 m, .slice a' (q + 1) c']] W fun e w' => e = .returned (.int .i64 0) ∧ Below W.heap.size W w' from by
    have h := pCheck_any s m a' c' (L ++ [x]) W hW
    rw [h2, hql] at h
    exact h)
  have HW := Lib.hid fun (W : World) (hb : Below w.heap.size w W) => with_ok s m a q cap ha L hq hq2 x W (Lib.hid (hL.out.below hb))
  clear h1 h2 hql
  obtain ⟨xa, xb, xt⟩ := x
  simp only at *
  go_enter Tryd.func31, Tryd.ntmps31
  go_upto_region 1 with fail
  have k0 : (((w.alloc (Obj.cells #[.int .i64 s, .int .i64 m, .slice a q cap] 34)).alloc (Obj.cells #[.int .i64 xa, .int .i64 xb, .int .i64 xt] 61)).alloc (Obj.cells #[.int .i64 0, .int .i64 0, .slice none 0 0] 34)).cell? ⟨w.heap.size, 0, none⟩ = some (.int .i64 s) := by simp [go_sem]
  have k1 : (((w.alloc (Obj.cells #[.int .i64 s, .int .i64 m, .slice a q cap] 34)).alloc (Obj.cells #[.int .i64 xa, .int .i64 xb, .int .i64 xt] 61)).alloc (Obj.cells #[.int .i64 0, .int .i64 0, .slice none 0 0] 34)).cell? ⟨w.heap.size, 1, none⟩ = some (.int .i64 m) := by simp [go_sem]
  have k2 : (((w.alloc (Obj.cells #[.int .i64 s, .int .i64 m, .slice a q cap] 34)).alloc (Obj.cells #[.int .i64 xa, .int .i64 xb, .int .i64 xt] 61)).alloc (Obj.cells #[.int .i64 0, .int .i64 0, .slice none 0 0] 34)).cell? ⟨w.heap.size, 2, none⟩ = some (.slice a q cap) := by simp [go_sem]
  have e0 : (((w.alloc (Obj.cells #[.int .i64 s, .int .i64 m, .slice a q cap] 34)).alloc (Obj.cells #[.int .i64 xa, .int .i64 xb, .int .i64 xt] 61)).alloc (Obj.cells #[.int .i64 0, .int .i64 0, .slice none 0 0] 34)).cell? ⟨w.heap.size + 1, 0, none⟩ = some (.int .i64 xa) := by simp [go_sem]
  have e1 : (((w.alloc (Obj.cells #[.int .i64 s, .int .i64 m, .slice a q cap] 34)).alloc (Obj.cells #[.int .i64 xa, .int .i64 xb, .int .i64 xt] 61)).alloc (Obj.cells #[.int .i64 0, .int .i64 0, .slice none 0 0] 34)).cell? ⟨w.heap.size + 1, 1, none⟩ = some (.int .i64 xb) := by simp [go_sem]
  have e2 : (((w.alloc (Obj.cells #[.int .i64 s, .int .i64 m, .slice a q cap] 34)).alloc (Obj.cells #[.int .i64 xa, .int .i64 xb, .int .i64 xt] 61)).alloc (Obj.cells #[.int .i64 0, .int .i64 0, .slice none 0 0] 34)).cell? ⟨w.heap.size + 1, 2, none⟩ = some (.int .i64 xt) := by simp [go_sem]
  have hr : (((w.alloc (Obj.cells #[.int .i64 s, .int .i64 m, .slice a q cap] 34)).alloc (Obj.cells #[.int .i64 xa, .int .i64 xb, .int .i64 xt] 61)).alloc (Obj.cells #[.int .i64 0, .int .i64 0, .slice none 0 0] 34)).rowIs (w.heap.size + 1 + 1) 34 3 (fun i => if i = 2 then .slice none 0 0 else .int .i64 0) := by
    have h := World.rowIs_alloc ((w.alloc (Obj.cells #[.int .i64 s, .int .i64 m, .slice a q cap] 34)).alloc (Obj.cells #[.int .i64 xa, .int .i64 xb, .int .i64 xt] 61)) #[.int .i64 0, .int .i64 0, .slice none 0 0] 34 (fun i => if i = 2 then .slice none 0 0 else .int .i64 0) (fun i hi => by
      match i, hi with
      | 0, _ => rfl
      | 1, _ => rfl
      | 2, _ => rfl)
    simpa using h
  have hX : Below w.heap.size w (((w.alloc (Obj.cells #[.int .i64 s, .int .i64 m, .slice a q cap] 34)).alloc (Obj.cells #[.int .i64 xa, .int .i64 xb, .int .i64 xt] 61)).alloc (Obj.cells #[.int .i64 0, .int .i64 0, .slice none 0 0] 34)) := below_alloc (below_alloc (below_alloc (Below.refl _ _) _) _) _
  generalize ((w.alloc (Obj.cells #[.int .i64 s, .int .i64 m, .slice a q cap] 34)).alloc (Obj.cells #[.int .i64 xa, .int .i64 xb, .int .i64 xt] 61)).alloc (Obj.cells #[.int .i64 0, .int .i64 0, .slice none 0 0] 34) = X at *
  go_wp2_with fail
  refine (HC.out _ hX).mono ?_
  rintro e w1 ⟨rfl, hb1⟩
  replace k0 := kept1 k0 hb1
  replace k1 := kept1 k1 hb1
  replace k2 := kept1 k2 hb1
  replace e0 := kept1 e0 hb1
  replace e1 := kept1 e1 hb1
  replace e2 := kept1 e2 hb1
  replace hr := Below.row' hb1 hr
  have hb2 := hX.trans (hb1.mono hX.size)
  have hr0 := hr
  clear hb1 hX HC X
  go_wp2_with fail
  refine (HW.out _ hb2).mono ?_
  rintro e w2 ⟨a', c', rfl, hW, han, hfar, hb3⟩
  replace hr := Below.row' hb3 hr
  have hb4 := hb2.trans (hb3.mono hb2.size)
  clear k0 k1 k2 e0 e1 e2 hb3 HW
  go_upto_region 5 with fail
  have hba := below_alloc (Below.refl w2.heap.size w2) (Obj.cells #[.int .i64 s, .int .i64 m, .slice a' (q + 1) c'] 34)
  have k0 : (w2.alloc (Obj.cells #[.int .i64 s, .int .i64 m, .slice a' (q + 1) c'] 34)).cell? ⟨w2.heap.size, 0, none⟩ = some (.int .i64 s) := by simp [go_sem]
  have k1 : (w2.alloc (Obj.cells #[.int .i64 s, .int .i64 m, .slice a' (q + 1) c'] 34)).cell? ⟨w2.heap.size, 1, none⟩ = some (.int .i64 m) := by simp [go_sem]
  have k2 : (w2.alloc (Obj.cells #[.int .i64 s, .int .i64 m, .slice a' (q + 1) c'] 34)).cell? ⟨w2.heap.size, 2, none⟩ = some (.slice a' (q + 1) c') := by simp [go_sem]
  have hW2 := Lib.hid (hW.out.below hba)
  replace hr := Below.row' hba hr
  have hb5 := hb4.trans (hba.mono hb4.size)
  clear hba hb4 hb2 hW
  generalize w2.alloc (Obj.cells #[.int .i64 s, .int .i64 m, .slice a' (q + 1) c'] 34) = Y at *
  go_wp2_with fail
  refine (HD.out _ _ _ hW2).mono ?_
  rintro e w3 ⟨rfl, hb6⟩
  replace k0 := kept1 k0 hb6
  replace k1 := kept1 k1 hb6
  replace k2 := kept1 k2 hb6
  replace hr := Below.row' hb6 hr
  have hb7 := hb5.trans (hb6.mono hb5.size)
  have hW3 := hW2.out.below hb6
  have r0 := hr.cell (i := 0) (by omega)
  have r1 := hr.cell (i := 1) (by omega)
  have r2 := hr.cell (i := 2) (by omega)
  have f0 := hr.frozen 0
  have f1 := hr.frozen 1
  have f2 := hr.frozen 2
  simp only [if_true, if_false, Nat.succ_ne_self, Nat.reduceEqDiff] at r0 r1 r2
  have z := ((hr.set 0 (.int .i64 s)).set 1 (.int .i64 m)).set 2 (.slice a' (q + 1) c')
  have z0 := z.cell (i := 0) (by omega)
  have z1 := z.cell (i := 1) (by omega)
  have z2 := z.cell (i := 2) (by omega)
  simp only [if_true, if_false, Nat.succ_ne_self, Nat.reduceEqDiff] at z0 z1 z2
  clear z hW2 hb5 hb6
  have hbf : But (fun k => k = w.heap.size + 1 + 1) w3 (((w3.setCell ⟨w.heap.size + 1 + 1, 0, none⟩ (.int .i64 s)).setCell ⟨w.heap.size + 1 + 1, 1, none⟩ (.int .i64 m)).setCell ⟨w.heap.size + 1 + 1, 2, none⟩ (.slice a' (q + 1) c')) := (((But.refl (fun k => k = w.heap.size + 1 + 1) w3).setCell (p := ⟨w.heap.size + 1 + 1, 0, none⟩) (.inr rfl) _).setCell (p := ⟨w.heap.size + 1 + 1, 1, none⟩) (.inr rfl) _).setCell (p := ⟨w.heap.size + 1 + 1, 2, none⟩) (.inr rfl) _
  have hz1 : w.heap.size + 1 + 1 < w1.heap.size := by have := hr0.lt; omega
  have hWf : Hid (WksAt (((w3.setCell ⟨w.heap.size + 1 + 1, 0, none⟩ (.int .i64 s)).setCell ⟨w.heap.size + 1 + 1, 1, none⟩ (.int .i64 m)).setCell ⟨w.heap.size + 1 + 1, 2, none⟩ (.slice a' (q + 1) c')) a' (L ++ [⟨xa, xb, xt⟩])) := Lib.hid (fun k hk => by
    obtain ⟨y, rfl, h1, h2, h3⟩ := hW3 k hk
    have hy := hfar.out y rfl
    have hyb : (y.add (k * 3)).block = y.block := by unfold Addr.add; split <;> rfl
    refine ⟨y, rfl, hbf.kept h1 (fun e => ?_), hbf.kept h2 (fun e => ?_), hbf.kept h3 (fun e => ?_)⟩ <;> (simp only [hyb] at e; omega))
  have hbz := hb7.trans (hbf.below hb7.size (fun k hk e => by omega))
  clear hW3 hb7 hbf HD hr hr0
  go_wp2
  generalize ((w3.setCell ⟨w.heap.size + 1 + 1, 0, none⟩ (.int .i64 s)).setCell ⟨w.heap.size + 1 + 1, 1, none⟩ (.int .i64 m)).setCell ⟨w.heap.size + 1 + 1, 2, none⟩ (.slice a' (q + 1) c') = V at *
  refine bodyPost_ret (v := .tuple #[.agg #[.int .i64 s, .int .i64 m, .slice a' (q + 1) c'], .int .i64 0]) (by simp [results, Tryd.results31, go_sem, z0, z1, z2]) rfl ?_
  exact ⟨a', c', rfl, hWf, han, hbz⟩
end Go.Proofs.YtidcedilfhmllaaDoor
