/- The law ChainLattice, its plain side: the greater and the lesser ones of two solutions' elements are solutions. -/
import Derived.Test.YtadopopnagmggaaZ06
set_option linter.unusedSimpArgs false
set_option linter.unusedVariables false
namespace Ch
theorem solves_iff (L : List Lk) (x : List Int) : solves L x = true ↔ ∀ l ∈ L, x.getD l.t.toNat 0 ≤ x.getD l.f.toNat 0 + l.m := by
  induction L with
  | nil => simp [solves]
  | cons l r ih =>
    rw [solves]
    by_cases h : x.getD l.f.toNat 0 + l.m < x.getD l.t.toNat 0
    · rw [if_pos h]
      simp only [Bool.false_eq_true, false_iff]
      intro h2
      have := h2 l List.mem_cons_self
      omega
    · rw [if_neg h, ih]
      simp only [List.mem_cons, forall_eq_or_imp]
      constructor
      · intro h2; exact ⟨by omega, h2⟩
      · intro h2; exact h2.2
theorem getD_zip (f : Int → Int → Int) {x y : List Int} (h : x.length = y.length) {k : Nat} (hk : k < x.length) : (List.zipWith f x y).getD k 0 = f (x.getD k 0) (y.getD k 0) := by
  rw [List.getD, List.getD, List.getD, List.getElem?_zipWith, List.getElem?_eq_getElem hk, List.getElem?_eq_getElem (show k < y.length by omega)]
  rfl
theorem getD_mem {L : List Lk} {l : Lk} (h : l ∈ L) : ∃ k, k < L.length ∧ L.getD k noLk = l := by
  obtain ⟨k, hk, e⟩ := List.mem_iff_getElem.1 h
  exact ⟨k, hk, by rw [List.getD, List.getElem?_eq_getElem hk, e]; rfl⟩
theorem far_of {x : List Int} (h : ∀ k, k < x.length → far (x.getD k 0) = false) : x.any far = false := by
  rw [List.any_eq_false]
  intro z hz
  obtain ⟨k, hk, e⟩ := List.mem_iff_getElem.1 hz
  have := h k hk
  rw [List.getD, List.getElem?_eq_getElem hk] at this
  rw [← e]
  simpa using this
theorem far_at {x : List Int} (h : x.any far = false) {k : Nat} (hk : k < x.length) : far (x.getD k 0) = false := by
  rw [List.any_eq_false] at h
  have := h (x.getD k 0) (by rw [List.getD, List.getElem?_eq_getElem hk]; exact List.getElem_mem hk)
  simpa using this
theorem fits_ok {n : Int} {L : List Lk} {x : List Int} : fits n L x = (true, 0) ↔ (check n L).1 = 0 ∧ (x.length : Int) = n ∧ x.any far = false ∧ solves L x = true ∧ x.getD 0 0 = 0 := by
  unfold fits
  by_cases h1 : (check n L).1 = 0
  · rw [if_neg (by simpa using h1)]
    by_cases h2 : (x.length : Int) ≠ n ∨ x.any far = true
    · rw [if_pos h2]
      constructor
      · intro h; cases h
      · rintro ⟨_, h3, h4, _⟩
        rcases h2 with h2 | h2
        · exact absurd h3 h2
        · rw [h4] at h2; cases h2
    · rw [if_neg h2]
      have h3 : (x.length : Int) = n := by
        apply Classical.byContradiction; intro h; exact h2 (.inl h)
      have h4 : x.any far = false := by
        cases e : x.any far with
        | false => rfl
        | true => exact absurd (.inr e) h2
      by_cases h5 : solves L x = true
      · rw [if_pos h5]
        simp [h1, h3, h4, h5]
      · rw [if_neg h5]
        simp [h5]
  · rw [if_pos (by simpa using h1)]
    constructor
    · intro h; cases h
    · intro h; exact absurd h.1 h1
theorem fits_zip (f : Int → Int → Int) (hf : ∀ a b, (f a b = a ∨ f a b = b)) (hm : ∀ a b c d m, a ≤ c + m → b ≤ d + m → f a b ≤ f c d + m) {n : Int} {L : List Lk} {x y : List Int} (hx : fits n L x = (true, 0)) (hy : fits n L y = (true, 0)) : fits n L (List.zipWith f x y) = (true, 0) := by
  rw [fits_ok] at hx hy ⊢
  obtain ⟨h1, h2, h3, h4, h5⟩ := hx
  obtain ⟨_, g2, g3, g4, g5⟩ := hy
  obtain ⟨n1, n2, _, hok⟩ := check_ok h1
  have hl : x.length = y.length := by omega
  have hz : (List.zipWith f x y).length = x.length := by rw [List.length_zipWith, hl]; omega
  have hff : ∀ k, k < x.length → (List.zipWith f x y).getD k 0 = f (x.getD k 0) (y.getD k 0) := fun k hk => getD_zip f hl hk
  refine ⟨h1, by rw [hz]; exact h2, far_of (fun k hk => ?_), ?_, ?_⟩
  · rw [hz] at hk
    rw [hff k hk]
    rcases hf (x.getD k 0) (y.getD k 0) with e | e
    · rw [e]; exact far_at h3 hk
    · rw [e]; exact far_at g3 (by omega)
  · rw [solves_iff] at h4 g4 ⊢
    intro l hl2
    obtain ⟨k, hk, e⟩ := getD_mem hl2
    have ho := okLk_spec (hok k hk)
    rw [e] at ho
    rw [hff _ (by omega), hff _ (by omega)]
    exact hm _ _ _ _ _ (h4 l hl2) (g4 l hl2)
  · rw [hff 0 (by omega), h5, g5]
    rcases hf 0 0 with e | e <;> rw [e]
theorem fits_max {n : Int} {L : List Lk} {x y : List Int} (hx : fits n L x = (true, 0)) (hy : fits n L y = (true, 0)) : fits n L (List.zipWith max x y) = (true, 0) :=
  fits_zip max (fun a b => by omega) (fun a b c d m h1 h2 => by omega) hx hy
theorem fits_min {n : Int} {L : List Lk} {x y : List Int} (hx : fits n L x = (true, 0)) (hy : fits n L y = (true, 0)) : fits n L (List.zipWith min x y) = (true, 0) :=
  fits_zip min (fun a b => by omega) (fun a b c d m h1 h2 => by omega) hx hy
theorem zip_next (f : Int → Int → Int) {x y : List Int} (h : x.length = y.length) {k : Nat} (hk : k < x.length) : (List.zipWith f x y).take (k + 1) = (List.zipWith f x y).take k ++ [f (x.getD k 0) (y.getD k 0)] := by
  have hz : k < (List.zipWith f x y).length := by rw [List.length_zipWith]; omega
  rw [List.take_succ_eq_append_getElem hz]
  congr 2
  have := getD_zip f h hk
  rw [List.getD, List.getElem?_eq_getElem hz] at this
  exact this
end Ch
