/- Layer 3, plain: what the law PlateWalks asks of walks and signs. -/
import Derived.Test.YtidcedilfhmllaaDoorZSpr
import Derived.Test.YtidcedilfhmllaaDoorZ26
set_option linter.unusedSimpArgs false
set_option linter.unusedVariables false
namespace Pl
theorem runs_two {m : Int} {W : List Wk} (hW : Ok m W) {p q r : Int} {t u : Nat} {e f : Bool} {a b : List Int} (ha : ∀ k ∈ a, k ∈ stps W.length) (hb : ∀ k ∈ b, k ∈ stps W.length) (h : runs (adv W) ⟨p, 0, false⟩ a = some ⟨q, t, e⟩) (g : runs (adv W) ⟨q, 0, false⟩ b = some ⟨r, u, f⟩) : runs (adv W) ⟨p, 0, false⟩ (a ++ b) = some ⟨r, cmp t u, e != f⟩ := by
  have ht : t < 8 := (runs_in hW a _ _ ha (start_lt p) h).1
  rw [runs_append, h]
  show runs (adv W) ⟨q, t, e⟩ b = _
  rw [← mv_start ht e q, runs_mv hW ht e b _ hb (start_lt q), show runs (adv W) (start q) b = _ from g]
  rfl
/-- the walk of a sign: it is closed, has this sign, and none is shorter -/
structure Wl (L : List Wk) (p : Int) (g : Nat × Bool) (w : List Int) : Prop where
  run : runs (adv L) ⟨p, 0, false⟩ w = some ⟨p, g.1, g.2⟩
  st : ∀ k ∈ w, k ∈ stps L.length
  len : w.length ≤ 96
  min : ∀ v : List Int, (∀ k ∈ v, k ∈ stps L.length) → runs (adv L) ⟨p, 0, false⟩ v = some ⟨p, g.1, g.2⟩ → w.length ≤ v.length
theorem wlk_spec {m : Int} {L : List Wk} (hm : m ≤ 6) (hL : Ok m L) {p : Int} (hp : 0 ≤ p ∧ p < m) {g : Nat × Bool} (h : g ∈ signs L p) : Wl L p g (wlk L p g) := by
  have hB := ways_ok hm hL hp
  have hw := wlk_in h
  obtain ⟨h1, h2⟩ := hB.run _ hw
  refine ⟨h1, h2, ?_, fun v hv hr => ?_⟩
  · have a1 := Go.Proofs.YtidcedilfhmllaaDoor.ways_lens hw
    have a2 := bf_len hm hL hp hB
    simp only at a1
    omega
  · obtain ⟨v', k1, k2⟩ := bfs_all hB _ v _ rfl hv hr
    rw [nodup_one hB.nd hw k1]
    exact k2
theorem stc_stps {q : Nat} {l : List Int} (h : ∀ k ∈ l, k ∈ stps q) (hl : l.length ≤ 96) : stc q [l] = 0 := by
  unfold stc
  rw [if_neg, if_pos]
  · simp only [List.all_cons, List.all_nil, Bool.and_true, List.all_eq_true]
    intro k hk
    have := mem_stps.1 (h k hk)
    unfold okS
    refine decide_eq_true ?_
    unfold wof
    split <;> omega
  · simp only [List.any_cons, List.any_nil, Bool.or_false, decide_eq_true_eq]
    omega
theorem fol_some {s m : Int} {L : List Wk} {p : Int} (h : cpl s m L p = 0) {l : List Int} (hl : ∀ k ∈ l, k ∈ stps L.length) (h96 : l.length ≤ 96) {y : St} (hr : runs (adv L) ⟨p, 0, false⟩ l = some y) : fol s m L p l = (y, 0) := by
  unfold fol
  rw [if_neg (by rw [h]; decide), if_neg (by rw [stc_stps hl h96]; decide), hr]
/-- what Follow's OK says -/
theorem fol_ok {s m : Int} {L : List Wk} {p : Int} {l : List Int} (h : (fol s m L p l).2 = 0) : cpl s m L p = 0 ∧ (∀ k ∈ l, k ∈ stps L.length) ∧ l.length ≤ 96 ∧ runs (adv L) ⟨p, 0, false⟩ l = some (fol s m L p l).1 := by
  unfold fol at h ⊢
  split at h
  · rename_i c
    exact (c h).elim
  · rename_i c1
    split at h
    · rename_i c
      exact (c h).elim
    · rename_i c2
      rw [if_neg c1, if_neg c2]
      obtain ⟨d1, d2⟩ := stc_ok (Decidable.not_not.1 c2) l (by simp)
      split at h
      · cases h
      · rename_i y hy
        rw [hy]
        exact ⟨Decidable.not_not.1 c1, d2, d1, rfl⟩
end Pl
