/- Package chain, mirrored: some fuel is always enough, and a system is consistent when it has a solution. -/
import Derived.Test.YtkcchangkhklcaaZTf
import Derived.Test.YtkcchangkhklcaaZ06
set_option linter.unusedSimpArgs false
set_option linter.unusedVariables false
namespace Ch

theorem settleGo_wf {n : Nat} {L : List Lk} {drop : List Bool} (hok : ∀ j, j < L.length → okLk n (L.getD j noLk) = true) : ∀ {k : Nat} {x : St} {s : List Int}, WF n x → settleGo n L drop k x = some (some s) → ∃ y : St, WF n y ∧ y.s = s
  | 0, x, s, _, h => by cases h
  | k + 1, x, s, hw, h => by
    unfold settleGo at h
    split at h
    · cases h; exact ⟨x, hw, rfl⟩
    · rename_i u q hq
      have hu := (hw.q u (by rw [hq]; exact List.mem_cons_self)).1
      split at h
      · cases h
      · rename_i y hy
        exact settleGo_wf hok (relaxAll_wf hu (hw.take hq) (fun l hl => by
          obtain ⟨i, hi, rfl, _⟩ := mem_linksInto hl
          exact hok i hi) hy).1 h

/-- sums to begin with -/
structure Begin (n : Nat) (s : List Int) : Prop where
  len : s.length = n
  b : ∀ i, i < n → 0 ≤ s.getD i 0 ∧ s.getD i 0 ≤ 1152921504606846976
theorem Begin.wf {n : Nat} {s : List Int} (h : Begin n s) (h1 : 1 ≤ n) (h2 : n ≤ 60) : WF n (settle0 s) := by
  rw [← start0_all]
  exact start0_wf h1 h2 h.len h.b _ (by rw [h.len]; exact Nat.le_refl _)
theorem Begin.rx {n : Nat} {s : List Int} (h : Begin n s) (h2 : n ≤ 60) (L : List Lk) (drop : List Bool) : Rx n L drop (settle0 s) := by
  have hlen := h.len
  refine ⟨fun v hv hw => ?_, fun v hv => ?_⟩
  · have hw' : ((List.range 60).map fun v => decide (v < s.length) && s.getD v 0 != free).getD v false = true := hw
    rw [w_at (by omega), Bool.and_eq_true] at hw'
    exact List.mem_filter.2 ⟨List.mem_range.2 (by omega), hw'.2⟩
  · by_cases hf : s.getD v 0 = free
    · exact .inr (.inl hf)
    · exact .inl (List.mem_filter.2 ⟨List.mem_range.2 (by omega), by rw [bne_iff_ne]; exact hf⟩)
theorem Begin.paths {n : Nat} {s : List Int} (σ : Nat → Int) : Paths n σ (settle0 s) := fun v hv => by
  refine ⟨[v], List.nodup_cons.2 ⟨List.not_mem_nil, List.nodup_nil⟩, ?_, fun p hp => ?_⟩
  · show ((1 : Nat) : Int) = (List.replicate 60 (0 : Int)).getD v 0 + 1
    rw [List.getD, List.getElem?_replicate]
    split <;> rfl
  · rw [List.mem_singleton.1 hp]; exact ⟨hv, Int.le_refl _⟩
theorem begin_zero (n : Nat) : Begin n (List.replicate n 0) := ⟨List.length_replicate, fun i hi => by
  rw [List.getD, List.getElem?_replicate, if_pos hi]
  exact ⟨Int.le_refl _, by decide⟩⟩
theorem begin_to (n v : Nat) : Begin n ((unbound n).set v 0) := ⟨by unfold unbound; rw [List.length_set, List.length_replicate], fun i hi => by
  by_cases e : v = i
  · subst e
    rw [set_same (by unfold unbound; rw [List.length_replicate]; exact hi)]
    exact ⟨Int.le_refl _, by decide⟩
  · rw [set_other e]
    unfold unbound
    rw [List.getD, List.getElem?_replicate, if_pos hi]
    exact ⟨by decide, Int.le_refl _⟩⟩

/-- levels are a solution -/
theorem levels_sol {n : Nat} (h1 : 1 ≤ n) (h2 : n ≤ 60) {L : List Lk} {drop : List Bool} (hok : ∀ j, j < L.length → okLk n (L.getD j noLk) = true) {k : Nat} {s : List Int} (h : levels n L drop k = some (some s)) : Sol L drop (fun v => s.getD v 0) := by
  have hf := settleGo_finds hok ((begin_zero n).wf h1 h2) ((begin_zero n).rx h2 L drop) h
  intro v l hl
  obtain ⟨i, hi, e, ht⟩ := mem_linksInto hl
  have h9 := hok i hi
  rw [← e] at h9
  obtain ⟨_, _, t0, t1, _⟩ := okLk_spec h9
  have hv : v < n := by omega
  rcases hf.1 v hv with h3 | h3
  · have h4 := hf.2.1 v hv
    have h5 : (settle0 (List.replicate n 0)).s.getD v 0 = 0 := by
      show (List.replicate n (0 : Int)).getD v 0 = 0
      rw [List.getD, List.getElem?_replicate, if_pos hv]; rfl
    rw [h3, h5] at h4
    exact absurd h4 (by decide)
  · exact h3 l hl
/-- with fuel enough, consistent means: there is a solution -/
theorem cons_iff {n : Nat} (h1 : 1 ≤ n) (h2 : n ≤ 60) {L : List Lk} {drop : List Bool} (hok : ∀ j, j < L.length → okLk n (L.getD j noLk) = true) {k : Nat} (hk : meas (settle0 (List.replicate n 0)) < k) : cons n L drop k = true ↔ ∃ σ, Sol L drop σ := by
  have he := settleGo_ends (drop := drop) hok ((begin_zero n).wf h1 h2) hk
  constructor
  · intro h
    unfold cons at h
    split at h
    · rename_i s hs; exact ⟨_, levels_sol h1 h2 hok hs⟩
    · cases h
  · rintro ⟨σ, hσ⟩
    have h3 := settleGo_keeps (k := k) hok hσ ((begin_zero n).wf h1 h2) (Begin.paths σ)
    unfold cons levels settle
    cases hh : settleGo n L drop k (settle0 (List.replicate n 0)) with
    | none => rw [hh] at he; cases he
    | some R => cases R with
      | none => exact absurd hh h3
      | some s => rfl
theorem meas_all (n : Nat) : ∀ j : Nat, ∃ K, ∀ v, v < j → meas (settle0 ((unbound n).set v 0)) < K
  | 0 => ⟨0, fun v hv => by omega⟩
  | j + 1 => by
    obtain ⟨K, hK⟩ := meas_all n j
    refine ⟨K + meas (settle0 ((unbound n).set j 0)) + 1, fun v hv => ?_⟩
    by_cases e : v = j
    · subst e; omega
    · have := hK v (by omega); omega
/-- enough fuel there is -/
theorem enough_ex {n : Nat} (h1 : 1 ≤ n) (h2 : n ≤ 60) {L : List Lk} (hok : ∀ j, j < L.length → okLk n (L.getD j noLk) = true) : ∃ K, ∀ k drop, K ≤ k → enough n L drop k = true ∧ (cons n L drop k = true ↔ ∃ σ, Sol L drop σ) := by
  obtain ⟨K, hK⟩ := meas_all n n
  refine ⟨K + meas (settle0 (List.replicate n 0)) + 1, fun k drop hk => ⟨?_, cons_iff h1 h2 hok (by omega)⟩⟩
  have he := settleGo_ends (drop := drop) hok ((begin_zero n).wf h1 h2) (k := k) (by omega)
  unfold enough
  cases hh : levels n L drop k with
  | none =>
    have he' : (levels n L drop k).isSome = true := he
    rw [hh] at he'; cases he'
  | some R => cases R with
    | none => rfl
    | some s =>
      have hσ := levels_sol h1 h2 hok hh
      show (List.range n).all _ = true
      rw [List.all_eq_true]
      intro v hv
      have hv := List.mem_range.1 hv
      have hw := (begin_to n v).wf h1 h2
      have h3 := settleGo_keeps (k := k) hok hσ hw (Begin.paths _)
      have h4 := settleGo_ends (drop := drop) hok hw (k := k) (by have := hK v hv; omega)
      cases h5 : boundsTo n L drop k v with
      | none =>
        have h4' : (boundsTo n L drop k v).isSome = true := h4
        rw [h5] at h4'; cases h4'
      | some R => cases R with
        | none => exact absurd h5 h3
        | some z =>
          obtain ⟨y, hy, rfl⟩ := settleGo_wf hok hw h5
          show (y.s.length == n && y.s.all fun z => decide (-free ≤ z) && decide (z ≤ free)) = true
          rw [Bool.and_eq_true, beq_iff_eq, List.all_eq_true]
          refine ⟨hy.s, fun z hz => ?_⟩
          obtain ⟨i, hi, rfl⟩ := List.mem_iff_getElem.1 hz
          have hi' : i < n := by rw [← hy.s]; exact hi
          have e : y.s[i] = y.s.getD i 0 := by rw [List.getD, List.getElem?_eq_getElem hi]; rfl
          have ha := hy.hi i hi'
          have hb := hy.lo i hi'
          have hc := hy.cb i hi'
          rw [e, Bool.and_eq_true]
          unfold free
          exact ⟨decide_eq_true (by omega), decide_eq_true ha⟩
end Ch
