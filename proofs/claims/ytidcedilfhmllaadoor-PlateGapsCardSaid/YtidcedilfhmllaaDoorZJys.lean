/- What the claims of layer 3 share: how a shop and a list of numbers that came in are opened. -/
import Derived.Test.YtidcedilfhmllaaDoorZJyt
import Derived.Test.YtidcedilfhmllaaDoorZ04
import Derived.Test.YtidcedilfhmllaaDoorZ13
set_option linter.unusedSimpArgs false
set_option linter.unusedVariables false
namespace Go.Proofs.YtidcedilfhmllaaDoor
open Go.ChangeShapes Go.WideShapes Go.ChangeAt Go.RowKit Go.Joins Go.Deep
set_option maxRecDepth 100000

theorem cells_int : Tryd.prog.cellsOf 3 = 1 := by kernel_rfl
theorem cells_wk : Tryd.prog.cellsOf 61 = 3 := by kernel_rfl
def I64w (l : Pl.Wk) : Prop := I64 l.a ∧ I64 l.b ∧ I64 l.t
variable {H : Type} {enc : TypeId × Value → H} {W : World} {base : Nat} {v : Value} {d : DataW H} {p : List MemPlace}

/-- a list out of what is known at each place -/
theorem list_of {α : Type} (z : α) (P : Nat → α → Prop) : ∀ (m : Nat), (∀ i, i < m → ∃ x, P i x) → ∃ L : List α, L.length = m ∧ ∀ i, i < m → P i (L.getD i z)
  | 0, _ => ⟨[], rfl, fun i h => by omega⟩
  | m + 1, h => by
    obtain ⟨L, h1, h2⟩ := list_of z P m (fun i hi => h i (by omega))
    obtain ⟨x, hx⟩ := h m (by omega)
    refine ⟨L ++ [x], by simp [h1], fun i hi => ?_⟩
    by_cases e : i < m
    · have e2 : (L ++ [x]).getD i z = L.getD i z := by rw [List.getD, List.getD, List.getElem?_append_left (by omega)]
      rw [e2]; exact h2 i e
    · obtain rfl : i = m := by omega
      have e2 : (L ++ [x]).getD i z = x := by rw [List.getD, List.getElem?_append_right (by omega), h1, Nat.sub_self]; rfl
      rw [e2]; exact hx

theorem trod_wks {n : Nat} {c : Value} {y : DataW H × List MemPlace} (h : DataW.trod enc Tryd.prog W 0 (fun _ => true) true n 32 [c] = some y) :
    ∃ a len cap, c = .slice a len cap ∧ (a = none → cap = 0) ∧ len ≤ maxLen ∧ ∃ L : List Pl.Wk, L.length = len ∧ WksAt W a L ∧ ∀ i, i < len → I64w (L.getD i Pl.noW) := by
  rcases open_slice Tryd.underlying32 h with ⟨hc, _⟩ | ⟨a, len, cap, m, k, D, Pq, hc, _, hl, hm, hmm, _, hi⟩
  · simp only [List.cons.injEq, and_true] at hc
    exact ⟨none, 0, 0, hc, fun _ => rfl, Nat.zero_le _, [], rfl, fun k hk => by simp at hk, fun i hi => by omega⟩
  · simp only [List.cons.injEq, and_true] at hc
    subst hc
    simp only [if_true] at hmm
    subst hmm
    refine ⟨some a, len, m, rfl, (fun h => by cases h), Nat.le_trans hl hm, ?_⟩
    obtain ⟨L, h1, h2⟩ := list_of Pl.noW (fun i l => WkAt W (a.add (i * 3)) l ∧ I64w l) len (fun i hil => by
      obtain ⟨cs', hcs, ht⟩ := hi i (by omega)
      rw [cells_wk] at hcs
      obtain ⟨_, hcl, hat⟩ := World.cells?_some hcs
      obtain ⟨y0, y1, y2, _, _, _, h0, h1, h2⟩ := trod_struct3 Tryd.underlying61 ht
      match cs', hcl with
      | [c0, c1, c2], _ =>
        rw [cells_int] at h0 h1 h2
        simp only [List.drop_zero, List.drop_succ_cons, List.take_succ_cons, List.take_zero] at h0 h1 h2
        obtain ⟨f, e0, _, w0⟩ := DataW.trod_int Tryd.underlying3 h0
        obtain ⟨t, e1, _, w1⟩ := DataW.trod_int Tryd.underlying3 h1
        obtain ⟨mo, e2, _, w2⟩ := DataW.trod_int Tryd.underlying3 h2
        simp only [List.cons.injEq, and_true] at e0 e1 e2
        subst e0 e1 e2
        have g0 := hat 0 (by omega)
        have g1 := hat 1 (by omega)
        have g2 := hat 2 (by omega)
        have eb : ∀ j, (a.add (i * 3)).add (j + 1) = ⟨(a.add (i * 3)).block, (a.add (i * 3)).off + (j + 1), none⟩ := fun j => by
          show Addr.add _ (j + 1) = _
          unfold Addr.add
          rw [if_neg (by omega)]
        refine ⟨⟨f, t, mo⟩, ⟨?_, ?_, ?_⟩, i64_of_wf w0, i64_of_wf w1, i64_of_wf w2⟩
        · simpa [Addr.add] using g0
        · rw [eb 0] at g1; simpa using g1
        · rw [eb 1] at g2; simpa using g2)
    exact ⟨L, h1, fun k hk => ⟨a, rfl, (h2 k (by omega)).1⟩, fun i hi => (h2 i hi).2⟩

theorem open_shop (hv : Value.okWide Tryd.prog W .any base 34 v) (h : DataW.Trod enc Tryd.prog W 0 (fun _ => true) true 34 v d p) :
    ∃ (s m : Int) (a : Option Addr) (len cap : Nat), v = .agg #[.int .i64 s, .int .i64 m, .slice a len cap] ∧ (a = none → cap = 0) ∧ len ≤ maxLen ∧ ∃ L : List Pl.Wk, L.length = len ∧ WksAt W a L ∧ ∀ i, i < len → I64w (L.getD i Pl.noW) := by
  obtain ⟨c0, c1, c2, y0, y1, y2, mm, rfl, _, _, hy0, hy1, hy2⟩ := open_agg3 Tryd.underlying34 (by kernel_rfl) (by kernel_rfl) hv h
  obtain ⟨s, e0, _, _⟩ := DataW.trod_int Tryd.underlying3 hy0
  obtain ⟨m, e1, _, _⟩ := DataW.trod_int Tryd.underlying3 hy1
  simp only [List.cons.injEq, and_true] at e0 e1
  subst e0 e1
  obtain ⟨a, len, cap, rfl, r⟩ := trod_wks hy2
  exact ⟨s, m, a, len, cap, rfl, r⟩

theorem open_row (hv : Value.okWide Tryd.prog W .any base 22 v) (h : DataW.Trod enc Tryd.prog W 0 (fun _ => true) true 22 v d p) :
    ∃ (a : Option Addr) (len cap : Nat), v = .slice a len cap ∧ (a = none → cap = 0) ∧ len ≤ maxLen ∧ ∃ xs : List Int, xs.length = len ∧ NsAt W a xs ∧ ∀ i, i < len → I64 (xs.getD i 0) := by
  obtain ⟨a, len, cap, rfl⟩ := okWide_slice Tryd.underlying22 hv
  refine ⟨a, len, cap, rfl, ?_⟩
  obtain ⟨fuel, hf⟩ := h
  rcases open_ints Tryd.underlying22 Tryd.underlying3 cells_int hf with ⟨hcs, _⟩ | ⟨x, l, c, zs, hcs, _, hl, hm, hz, _, hcell, hwz⟩
  · simp [Value.cells] at hcs
    obtain ⟨rfl, rfl, rfl⟩ := hcs
    exact ⟨fun _ => rfl, Nat.zero_le _, [], rfl, fun k hk => by simp at hk, fun i hi => by omega⟩
  · simp [Value.cells] at hcs
    obtain ⟨rfl, rfl, rfl⟩ := hcs
    have hz2 : zs.length = cap := by simpa using hz
    refine ⟨fun h => (by cases h), Nat.le_trans hl hm, zs.take len, by rw [List.length_take]; omega, fun k hk => ?_, fun i hi => ?_⟩
    · have hk2 : k < len := by rw [List.length_take] at hk; omega
      refine ⟨x, rfl, ?_⟩
      rw [hcell k (by omega), List.getD, List.getD, List.getElem?_take_of_lt hk2]
    · rw [List.getD, List.getElem?_take_of_lt hi, List.getElem?_eq_getElem (by omega)]
      exact i64_of_wf (hwz _ (List.getElem_mem _))
theorem row_bound {xs : List Int} {len : Nat} (h : xs.length = len) (hi : ∀ i, i < len → I64 (xs.getD i 0)) : ∀ g ∈ xs, -9223372036854775808 ≤ g ∧ g ≤ 9223372036854775807 := fun g hg => by
  obtain ⟨i, hl, he⟩ := List.getElem_of_mem hg
  have h2 := hi i (by omega)
  rw [List.getD, List.getElem?_eq_getElem hl] at h2
  rw [← he]
  exact h2
end Go.Proofs.YtidcedilfhmllaaDoor
