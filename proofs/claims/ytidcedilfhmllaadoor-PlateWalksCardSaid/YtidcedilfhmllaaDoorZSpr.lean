/- Layer 3, plain: a shape of one plate that follows its classes spreads to all plates, and these fit. -/
import Derived.Test.YtidcedilfhmllaaDoorZFit
set_option linter.unusedSimpArgs false
set_option linter.unusedVariables false
namespace Pl

/-- a walk leads to a state -/
def Rch (W : List Wk) (p : Int) (s : St) : Prop := ∃ w : List Int, (∀ k ∈ w, k ∈ stps W.length) ∧ runs (adv W) (start p) w = some s
theorem start_lt (p : Int) : (start p).t < 8 := by unfold start; simp only; omega
theorem Rch.lt {m : Int} {W : List Wk} (hW : Ok m W) {p : Int} {s : St} (h : Rch W p s) : s.t < 8 := by
  obtain ⟨w, h1, h2⟩ := h
  exact (runs_in hW w _ _ h1 (start_lt p) h2).1
theorem Rch.step {W : List Wk} {p : Int} {s y : St} (h : Rch W p s) {k : Int} (hk : k ∈ stps W.length) (ha : adv W s k = some y) : Rch W p y := by
  obtain ⟨w, h1, h2⟩ := h
  refine ⟨w ++ [k], fun x hx => ?_, by rw [runs_snoc, h2]; exact ha⟩
  rcases List.mem_append.1 hx with hx | hx
  · exact h1 x hx
  · simp only [List.mem_singleton] at hx
    subst hx
    exact hk
/-- two ways to a plate differ by a closed walk -/
theorem Rch.two {m : Int} {W : List Wk} (hW : Ok m W) {p q : Int} {t u : Nat} {e f : Bool} (h : Rch W p ⟨q, t, e⟩) (g : Rch W p ⟨q, u, f⟩) : Clo W p (cmp t (Pl.inv u)) (e != f) := by
  have ht : t < 8 := h.lt hW
  have hu : u < 8 := g.lt hW
  obtain ⟨w, h1, h2⟩ := h
  obtain ⟨v, g1, g2⟩ := g
  obtain ⟨x, k1, k2⟩ := runs_back hW v _ _ g1 (start_lt p) g2
  have hc := cmp_lt ht (inv_lt hu)
  refine ⟨w ++ x, fun k hk => ?_, ?_⟩
  · rcases List.mem_append.1 hk with hk | hk
    · exact h1 k hk
    · exact k1 k hk
  · have e1 : (⟨q, t, e⟩ : St) = mv (cmp t (Pl.inv u)) (e != f) ⟨q, u, f⟩ := by
      unfold mv
      simp only
      rw [cmp_assoc ht (inv_lt hu) hu, (gp hu).inv', (gp ht).one]
      cases e <;> cases f <;> rfl
    rw [runs_append, h2]
    show runs (adv W) ⟨q, t, e⟩ x = _
    rw [e1, runs_mv hW hc _ x _ k1 hu, k2, Option.map_some, mv_start hc]
/-- a shape over classes -/
theorem shape_clo {s : Nat} (hs : s ≤ 6) {m : Int} (hm : m ≤ 6) {W : List Wk} (hW : Ok m W) {p : Int} (hp : 0 ≤ p ∧ p < m) {l : Nat → Nat} {w : Nat → Int} (hu : Uf (s * s) (edges s (signs W p)) l w) (h : Nat → Int) {t : Nat} {e : Bool} (hc : Clo W p t e) {x : Nat} (hx : x < s * s) : w (tk s t x) * h (l (tk s t x)) = sg e * (w x * h (l x)) := by
  have ht := hc.lt hW
  have hy := tk_lt hs hx ht
  have j := ((signs_grp hm hW hp).jn hs hx).2 ⟨t, (mem_signs hm hW hp).2 hc, rfl⟩
  obtain ⟨k1, k2⟩ := (hu.iff hx hy e).1 j
  rw [← k1]
  rcases k2 with k | k
  · rw [k, hu.pin x _ hx hy k1 k]
    simp
  · rw [← k]
    rcases hu.tri x hx with q | q | q
    · rw [q]; simp
    · rw [q]; simp [Int.neg_mul_neg]
    · rw [q] at k
      rcases sg_cases e with r | r <;> rw [r] at k <;> simp at k
theorem sg_sq (e : Bool) : sg e * sg e = 1 := by cases e <;> rfl
/-- all ways to a cell of a plate say the same -/
theorem spread_one {s : Nat} (hs : s ≤ 6) {m : Int} {W : List Wk} (hW : Ok m W) {p q : Int} {sh : Nat → Int} (hsh : ∀ t e, Clo W p t e → ∀ x, x < s * s → sh (tk s t x) = sg e * sh x) {t u : Nat} {e f : Bool} (h : Rch W p ⟨q, t, e⟩) (g : Rch W p ⟨q, u, f⟩) {x y : Nat} (hx : x < s * s) (hy : y < s * s) (hxy : tk s t x = tk s u y) : sg e * sh x = sg f * sh y := by
  have ht : t < 8 := h.lt hW
  have hu : u < 8 := g.lt hW
  have k := hsh _ _ (h.two hW g) x hx
  rw [tk_cmp hs hx ht (inv_lt hu), hxy, tk_inv hs hy hu] at k
  rw [k]
  cases e <;> cases f <;> simp [sg]
/-- the plates of a shape -/
structure Spread (s : Nat) (W : List Wk) (p : Int) (sh : Nat → Int) (P : Int → Nat → Int) : Prop where
  at_ : ∀ q t e, Rch W p ⟨q, t, e⟩ → ∀ x, x < s * s → P q (tk s t x) = sg e * sh x
  off : ∀ q, (∀ t e, ¬ Rch W p ⟨q, t, e⟩) → ∀ x, x < s * s → P q x = 0
theorem Spread.fit {s : Nat} (hs : s ≤ 6) {m : Int} {W : List Wk} (hW : Ok m W) {p : Int} {sh : Nat → Int} {P : Int → Nat → Int} (h : Spread s W p sh P) : Fit s W P := by
  intro i hi x hx
  have ok := okW_spec (hW i hi)
  have hu : (W.getD i noW).t.toNat < 8 := by omega
  have hk : (i : Int) ∈ stps W.length := mem_stps.2 (by omega)
  have hk2 : (-1 - (i : Int)) ∈ stps W.length := mem_stps.2 (by omega)
  have hx2 := tk_lt hs hx hu
  by_cases hr : ∃ t e, Rch W p ⟨(W.getD i noW).a, t, e⟩
  · obtain ⟨t, e, hr⟩ := hr
    have ht : t < 8 := hr.lt hW
    have ha : adv W ⟨(W.getD i noW).a, t, e⟩ (i : Int) = some ⟨(W.getD i noW).b, cmp t (W.getD i noW).t.toNat, !e⟩ := by
      unfold adv
      rw [if_neg (by omega)]
      simp only [Int.toNat_natCast]
      rw [if_pos trivial]
    have hb := hr.step hk ha
    have hz := tk_lt hs hx (inv_lt ht)
    have e1 := h.at_ _ _ _ hr _ hz
    have e2 := h.at_ _ _ _ hb _ hz
    rw [tk_inv' hs hx ht] at e1
    rw [tk_cmp hs hz ht hu, tk_inv' hs hx ht] at e2
    rw [e1, e2, sg_not, Int.neg_mul]
  · have hrb : ∀ t e, ¬ Rch W p ⟨(W.getD i noW).b, t, e⟩ := fun t e g => by
      have ha : adv W ⟨(W.getD i noW).b, t, e⟩ (-1 - (i : Int)) = some ⟨(W.getD i noW).a, cmp t (inv (W.getD i noW).t.toNat), !e⟩ := by
        unfold adv
        have e1 : (-1 - (-1 - (i : Int))).toNat = i := by omega
        rw [if_pos (by omega), e1]
        simp only
        rw [if_pos trivial]
      exact hr ⟨_, _, g.step hk2 ha⟩
    rw [h.off _ (fun t e g => hr ⟨t, e, g⟩) x hx, h.off _ hrb _ hx2]
    rfl
/-- there are such plates -/
theorem spread_ex {s : Nat} (hs : s ≤ 6) {m : Int} {W : List Wk} (hW : Ok m W) {p : Int} {sh : Nat → Int} (hsh : ∀ t e, Clo W p t e → ∀ x, x < s * s → sh (tk s t x) = sg e * sh x) : ∃ P, Spread s W p sh P := by
  classical
  refine ⟨fun q y => if h : ∃ t e, Rch W p ⟨q, t, e⟩ then sg (Classical.choose (Classical.choose_spec h)) * sh (tk s (inv (Classical.choose h)) y) else 0, fun q t e h x hx => ?_, fun q h x _ => ?_⟩
  · have hex : ∃ t e, Rch W p ⟨q, t, e⟩ := ⟨t, e, h⟩
    rw [dif_pos hex]
    have g := Classical.choose_spec (Classical.choose_spec hex)
    generalize Classical.choose (Classical.choose_spec hex) = f at g ⊢
    generalize Classical.choose hex = u at g ⊢
    have hu : u < 8 := g.lt hW
    have ht : t < 8 := h.lt hW
    have hx2 := tk_lt hs hx ht
    exact (spread_one hs hW hsh h g hx (tk_lt hs hx2 (inv_lt hu)) (tk_inv' hs hx2 hu).symm).symm
  · have hn : ¬ ∃ t e, Rch W p ⟨q, t, e⟩ := fun ⟨t, e, k⟩ => h t e k
    rw [dif_neg hn]
end Pl
