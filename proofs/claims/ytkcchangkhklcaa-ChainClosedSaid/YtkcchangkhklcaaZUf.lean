/- Package chain, mirrored: what holds of Bound, Chain, Reach, Clash, CheckChain, CheckClash and Fits together. -/
import Derived.Test.YtkcchangkhklcaaZUe
set_option linter.unusedSimpArgs false
set_option linter.unusedVariables false
namespace Ch

/-- fuel that is enough -/
structure EN (n : Int) (L : List Lk) (k : Nat) : Prop where
  en : (check n L).1 = 0 → enough n.toNat L [] k = true
  sol : (check n L).1 = 0 → (cons n.toNat L [] k = true ↔ ∃ σ, Sol L [] σ)
theorem en_ex (n : Int) (L : List Lk) : ∃ K, ∀ k, K ≤ k → EN n L k := by
  by_cases hc : (check n L).1 = 0
  · obtain ⟨n1, n2, _, hok⟩ := check_ok hc
    obtain ⟨K, hK⟩ := enough_ex (n := n.toNat) (by omega) (by omega) (L := L) (by rw [show ((n.toNat : Nat) : Int) = n by omega]; exact hok)
    exact ⟨K, fun k hk => ⟨fun _ => (hK k [] hk).1, fun _ => (hK k [] hk).2⟩⟩
  · exact ⟨0, fun k _ => ⟨fun h => absurd h hc, fun h => absurd h hc⟩⟩
theorem EN.cons {n : Int} {L : List Lk} {k : Nat} (h : EN n L k) (hc : (check n L).1 = 0) (hk : cons n.toNat L [] k = true) : ∃ σ, Sol L [] σ := (h.sol hc).1 hk

theorem opn_at {n : Int} {L : List Lk} {k : Nat} {u v : Int} (hE : EN n L k) (h : opn n L [u, v] k = 0) : (check n L).1 = 0 ∧ (0 ≤ u ∧ u < n) ∧ (0 ≤ v ∧ v < n) ∧ BT n.toNat L [] v.toNat (bt n.toNat L [] k v.toNat) ∧ LV n.toNat L (lvs n.toNat L k) := by
  obtain ⟨c1, c2, c3⟩ := opn_ok h
  obtain ⟨n1, n2, _, hok⟩ := check_ok c1
  have hok' : ∀ j, j < L.length → okLk n.toNat (L.getD j noLk) = true := by rw [show ((n.toNat : Nat) : Int) = n by omega]; exact hok
  simp [isIx] at c2
  obtain ⟨b1, _, _⟩ := enough_bt (hE.en c1) c3 (v := v.toNat) (by omega)
  exact ⟨c1, c2.1, c2.2, bt_spec (by omega) (by omega) hok' (by omega) b1 (hE.cons c1 c3), (lv_spec (by omega) (by omega) hok' c3).2⟩
theorem check_five {n : Int} {L : List Lk} : (check n L).1 ≠ 5 := by
  by_cases h0 : n < 1 ∨ 60 < n
  · rw [check_n h0]; decide
  · by_cases h1 : 300 < L.length
    · rw [check_l h0 h1]; decide
    · rw [check_mid (by omega) (by omega) h1]
      split
      · show (1 : Int) ≠ 5; decide
      · show (0 : Int) ≠ 5; decide
theorem opn_range {n : Int} {L : List Lk} {l : List Int} {k : Nat} : opn n L l k ≠ 5 := by
  unfold opn openE
  by_cases h : (check n L).1 ≠ 0
  · rw [if_pos h]; exact check_five
  · rw [if_neg h]
    by_cases h2 : l.all (fun i => isIx i n) = true
    · rw [if_pos h2]
      cases cons n.toNat L [] k <;> decide
    · rw [if_neg h2]; decide
theorem bound_some {n : Int} {L : List Lk} {k : Nat} {u v : Int} (h : (bound n L k u v).2 = 0) : opn n L [u, v] k = 0 ∧ (bt n.toNat L [] k v.toNat).getD u.toNat 0 ≠ free ∧ (bound n L k u v).1 = (bt n.toNat L [] k v.toNat).getD u.toNat 0 := by
  unfold bound at h ⊢
  split at h
  · rename_i h1; exact absurd h h1
  · rename_i h1
    split at h
    · cases h
    · rename_i h2
      have h1' : opn n L [u, v] k = 0 := Classical.byContradiction h1
      refine ⟨h1', h2, ?_⟩
      rw [if_neg h1, if_neg h2]
theorem bound_none {n : Int} {L : List Lk} {k : Nat} {u v : Int} (h : (bound n L k u v).2 = 5) : opn n L [u, v] k = 0 ∧ (bt n.toNat L [] k v.toNat).getD u.toNat 0 = free := by
  unfold bound at h
  split at h
  · exact absurd h opn_range
  · rename_i h1
    split at h
    · rename_i h2
      exact ⟨Classical.byContradiction h1, h2⟩
    · cases h

theorem sharp_none {n : Int} {L : List Lk} {k : Nat} {u v : Int} (hE : EN n L k) (h : (bound n L k u v).2 = 5) (l : List Int) : (checkChain n L u v l).2 ≠ 0 := by
  intro h2
  obtain ⟨h1, h3⟩ := bound_none h
  obtain ⟨_, _, hv, hB, _⟩ := opn_at hE h1
  obtain ⟨_, _, _, _, hw⟩ := way_of_checkChain h2
  rw [show v = ((v.toNat : Nat) : Int) by omega] at hw
  exact (hB.up hw).2 h3
theorem sharp_fits {n : Int} {L : List Lk} {k : Nat} {u v : Int} (hE : EN n L k) (h : (bound n L k u v).2 = 0) {x : List Int} (hx : fits n L x = (true, 0)) : x.getD v.toNat 0 - x.getD u.toNat 0 ≤ (bound n L k u v).1 := by
  obtain ⟨h1, h2, h3⟩ := bound_some h
  obtain ⟨_, hu, hv, hB, _⟩ := opn_at hE h1
  rw [h3]
  exact (hB.fits (by omega) (fits_sol hx).2.2.2.1 (by omega)).resolve_left h2
theorem sharp_chain {n : Int} {L : List Lk} {k : Nat} {u v : Int} (hE : EN n L k) (h : (bound n L k u v).2 = 0) {l : List Int} (hl : (checkChain n L u v l).2 = 0) : (bound n L k u v).1 ≤ (checkChain n L u v l).1 := by
  obtain ⟨h1, h2, h3⟩ := bound_some h
  obtain ⟨_, hu, hv, hB, _⟩ := opn_at hE h1
  obtain ⟨_, _, _, _, hw⟩ := way_of_checkChain hl
  rw [h3]
  generalize (checkChain n L u v l).1 = z at hw ⊢
  rw [show v = ((v.toNat : Nat) : Int) by omega] at hw
  exact (hB.up hw).1
theorem sharp_own {n : Int} {L : List Lk} {k : Nat} {u v : Int} (hE : EN n L k) (h : (bound n L k u v).2 = 0) :
    ∃ c, chain n L k u v = some (c, 0) ∧ checkChain n L u v (ints c) = ((bound n L k u v).1, 0) ∧ (c.length : Int) < n ∧ ∀ l, checkChain n L u v l = ((bound n L k u v).1, 0) → c.length ≤ l.length := by
  obtain ⟨h1, h2, h3⟩ := bound_some h
  obtain ⟨hc, hu, hv, hB, _⟩ := opn_at hE h1
  obtain ⟨_, n2, _⟩ := check_ok hc
  obtain ⟨c, er, e1, e2, _, e4⟩ := chain_ex hE.en hE.cons u v (n := n) (L := L) (k := k)
  rw [h] at e2
  subst e2
  obtain ⟨g1, g2, g3⟩ := e4 rfl
  refine ⟨c, e1, checkChain_of_way hc hu hv g1 (by omega), g2, fun l hl => ?_⟩
  obtain ⟨_, _, _, _, hw⟩ := way_of_checkChain (by rw [hl])
  rw [hl] at hw
  have := g3 _ hw
  rwa [List.length_map] at this
theorem sharp_reach {n : Int} {L : List Lk} {k : Nat} {u v : Int} (hE : EN n L k) (h : (bound n L k u v).2 = 0) :
    ∃ Y, reach n L k u v = (Y, 0) ∧ fits n L Y = (true, 0) ∧ Y.getD v.toNat 0 - Y.getD u.toNat 0 = (bound n L k u v).1 := by
  obtain ⟨h1, h2, h3⟩ := bound_some h
  obtain ⟨hc, hu, hv, hB, hV⟩ := opn_at hE h1
  have := reach_ok hc hB hV (u := u.toNat) (v := v.toNat) (by omega) (by omega) h2
  refine ⟨_, ?_, this.1, by rw [h3]; exact this.2⟩
  unfold reach
  rw [if_neg (by simpa using h1), if_neg h2]
theorem reach_err {n : Int} {L : List Lk} {k : Nat} {u v : Int} (h : (bound n L k u v).2 ≠ 0) : reach n L k u v = ([], (bound n L k u v).2) := by
  unfold reach bound at *
  by_cases h1 : opn n L [u, v] k = 0
  · have h1' : ¬ opn n L [u, v] k ≠ 0 := fun hh => hh h1
    rw [if_neg h1'] at h ⊢
    rw [if_neg h1']
    by_cases h2 : (bt n.toNat L [] k v.toNat).getD u.toNat 0 = free
    · rw [if_pos h2, if_pos h2]
    · rw [if_neg h2] at h; exact absurd rfl h
  · rw [if_pos h1, if_pos h1]

/-! ### consistent or not -/
theorem ornot_fits {n : Int} {L : List Lk} {k : Nat} (hE : EN n L k) {x : List Int} (hx : fits n L x = (true, 0)) : cons n.toNat L [] k = true := by
  obtain ⟨h1, _, _, h2, _⟩ := fits_sol hx
  exact (hE.sol h1).2 ⟨_, sol_of_solves h2⟩
theorem ornot_clash {n : Int} {L : List Lk} {k : Nat} (hE : EN n L k) {l : List Int} (hl : checkClash n L l = 0) : cons n.toNat L [] k = false := by
  obtain ⟨h1, _, x, w, hw, hw0⟩ := way_of_checkClash hl
  cases hc : cons n.toNat L [] k
  · rfl
  · obtain ⟨σ, hσ⟩ := hE.cons h1 hc
    obtain ⟨n1, n2, _, hok⟩ := check_ok h1
    have := sol_no_neg (n := n.toNat) (by rw [show ((n.toNat : Nat) : Int) = n by omega]; exact hok) hσ hw
    omega
theorem bound_self {n : Int} {L : List Lk} {k : Nat} (hE : EN n L k) (hc : (check n L).1 = 0) (hk : cons n.toNat L [] k = true) : (bound n L k 0 0).2 = 0 := by
  obtain ⟨n1, n2, _, _⟩ := check_ok hc
  have h1 : opn n L [0, 0] k = 0 := by
    unfold opn openE
    rw [if_neg (by omega), if_pos (by simp [isIx]; omega), hk]
    rfl
  obtain ⟨_, _, _, hB, _⟩ := opn_at hE h1
  unfold bound
  rw [if_neg (by omega)]
  have h0 := hB.zero
  rw [show ((0 : Int).toNat) = 0 from rfl] at h0 ⊢
  rw [h0, if_neg (by decide)]
theorem open_clash {n : Int} {L : List Lk} {k : Nat} (hc : (check n L).1 = 0) (hk : cons n.toNat L [] k = false) {u v : Int} (hu : 0 ≤ u ∧ u < n) (hv : 0 ≤ v ∧ v < n) : opn n L [u, v] k = 9 := by
  unfold opn openE
  rw [if_neg (by omega), if_pos (by simp [isIx]; omega), hk]
  rfl
theorem ornot_no {n : Int} {L : List Lk} {k : Nat} (hE : EN n L k) (hc : (check n L).1 = 0) (hk : cons n.toNat L [] k = false) :
    ∃ c, clashE n L k = some (c, 0) ∧ 1 ≤ c.length ∧ (c.length : Int) ≤ n ∧ checkClash n L (ints c) = 0 ∧ ∀ l, checkClash n L l = 0 → c.length ≤ l.length := by
  obtain ⟨n1, n2, _, hok⟩ := check_ok hc
  have hok' : ∀ j, j < L.length → okLk n.toNat (L.getD j noLk) = true := by rw [show ((n.toNat : Nat) : Int) = n by omega]; exact hok
  have hno : ¬ ∃ σ, Sol L [] σ := fun h => by
    have := (hE.sol hc).2 h
    rw [hk] at this
    cases this
  obtain ⟨c, h1, ⟨x, w, h2, h3⟩, h4, h5, h6⟩ := clash_ex (by omega) hok' hno
  refine ⟨c, ?_, h4, by omega, checkClash_of_way hc h2 h3 (by omega), fun l hl => ?_⟩
  · unfold clashE
    rw [if_neg (by omega), hk, h1]
    rfl
  · obtain ⟨_, _, x', w', g1, g2⟩ := way_of_checkClash hl
    have := h6 _ x' w' g1 g2
    rwa [List.length_map] at this
end Ch
