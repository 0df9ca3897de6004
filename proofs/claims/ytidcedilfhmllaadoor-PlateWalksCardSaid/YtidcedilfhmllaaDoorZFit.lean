/- Layer 3, plain: heights that fit all workings follow the classes. -/
import Derived.Test.YtidcedilfhmllaaDoorZ03
set_option linter.unusedSimpArgs false
set_option linter.unusedVariables false
namespace Pl

def sumI (l : List Int) : Int := l.foldr (· + ·) 0
theorem sumI_perm {l k : List Int} (h : l.Perm k) : sumI l = sumI k := by
  induction h with
  | nil => rfl
  | cons x _ ih => show x + sumI _ = x + sumI _; rw [ih]
  | swap x y l => show y + (x + sumI l) = x + (y + sumI l); omega
  | trans _ _ a b => exact a.trans b
theorem sumI_add : ∀ (l : List Nat) (f g : Nat → Int) (c : Int), (∀ x ∈ l, f x + g x = c) → sumI (l.map f) + sumI (l.map g) = l.length * c
  | [], f, g, c, _ => by simp [sumI]
  | x :: r, f, g, c, h => by
    have h1 := h x List.mem_cons_self
    have h2 := sumI_add r f g c fun y hy => h y (List.mem_cons_of_mem _ hy)
    show (f x + sumI (r.map f)) + (g x + sumI (r.map g)) = ((r.length + 1 : Nat) : Int) * c
    rw [Int.natCast_add, Int.add_mul]
    omega
theorem perm_all : (List.range 7).all (fun s => (List.range 8).all fun t => ((List.range (s * s)).map (tk s t)).isPerm (List.range (s * s))) = true := by decide +kernel
theorem tk_perm {s t : Nat} (hs : s ≤ 6) (ht : t < 8) : ((List.range (s * s)).map (tk s t)).Perm (List.range (s * s)) := List.isPerm_iff.1 (range_all (range_all perm_all (show s < 7 by omega)) ht)
/-- the heights, counted from their mean, as often as there are cells -/
def dev (N : Nat) (f : Nat → Int) (x : Nat) : Int := N * f x - sumI ((List.range N).map f)
theorem dev_work {s t : Nat} (hs : s ≤ 6) (ht : t < 8) {f g : Nat → Int} {c : Int} (h : ∀ x, x < s * s → f x + g (tk s t x) = c) {x : Nat} (hx : x < s * s) : dev (s * s) g (tk s t x) = -dev (s * s) f x := by
  have e1 : sumI ((List.range (s * s)).map fun x => g (tk s t x)) = sumI ((List.range (s * s)).map g) := by
    have := sumI_perm ((tk_perm hs ht).map g)
    rwa [List.map_map] at this
  have e2 := sumI_add (List.range (s * s)) f (fun x => g (tk s t x)) c fun y hy => h y (List.mem_range.1 hy)
  rw [e1, List.length_range] at e2
  have e3 : ((s * s : Nat) : Int) * f x + ((s * s : Nat) : Int) * g (tk s t x) = ((s * s : Nat) : Int) * c := by rw [← Int.mul_add, h x hx]
  unfold dev
  omega
theorem sum_dev (N : Nat) (f : Nat → Int) : sumI ((List.range N).map (dev N f)) = 0 := by
  have key : ∀ (l : List Nat) (k S : Int), sumI (l.map fun x => k * f x - S) = k * sumI (l.map f) - l.length * S := by
    intro l k S
    induction l with
    | nil => simp [sumI]
    | cons x r ih =>
      show (k * f x - S) + sumI (r.map fun x => k * f x - S) = k * (f x + sumI (r.map f)) - ((r.length + 1 : Nat) : Int) * S
      rw [ih, Int.mul_add, Int.natCast_add, Int.add_mul]
      omega
  have := key (List.range N) N (sumI ((List.range N).map f))
  rw [List.length_range] at this
  have e : (fun x => (N : Int) * f x - sumI ((List.range N).map f)) = dev N f := rfl
  rw [e] at this
  rw [this]
  omega

/-- heights that are opposite over each working -/
def Fit (s : Nat) (W : List Wk) (H : Int → Nat → Int) : Prop := ∀ i, i < W.length → ∀ x, x < s * s → H (W.getD i noW).b (tk s (W.getD i noW).t.toNat x) = -H (W.getD i noW).a x
theorem sg_not (m : Bool) : sg (!m) = -sg m := by cases m <;> rfl
theorem Fit.step {s : Nat} (hs : s ≤ 6) {m : Int} {W : List Wk} (hW : Ok m W) {H : Int → Nat → Int} (h : Fit s W H) {b : Nat → Int} {u v : St} {k : Int} (hk : k ∈ stps W.length) (hu : u.t < 8) (ha : adv W u k = some v) (hb : ∀ x, x < s * s → H u.p (tk s u.t x) = sg u.m * b x) : ∀ x, x < s * s → H v.p (tk s v.t x) = sg v.m * b x := by
  intro x hx
  have hk' := mem_stps.1 hk
  have hz := tk_lt hs hx hu
  have hbx := hb x hx
  unfold adv at ha
  split at ha
  · have ok := okW_spec (hW (-1 - k).toNat (by omega))
    have ht : (W.getD (-1 - k).toNat noW).t.toNat < 8 := by omega
    split at ha
    · rename_i hp
      simp only [Option.some.injEq] at ha
      subst ha
      simp only
      rw [tk_cmp hs hx hu (inv_lt ht), sg_not]
      have hf := h (-1 - k).toNat (by omega) (tk s (inv (W.getD (-1 - k).toNat noW).t.toNat) (tk s u.t x)) (tk_lt hs hz (inv_lt ht))
      rw [tk_inv' hs hz ht, hp, hbx] at hf
      rw [Int.neg_mul, hf, Int.neg_neg]
    · cases ha
  · have ok := okW_spec (hW k.toNat (by omega))
    have ht : (W.getD k.toNat noW).t.toNat < 8 := by omega
    split at ha
    · rename_i hp
      simp only [Option.some.injEq] at ha
      subst ha
      simp only
      rw [tk_cmp hs hx hu ht, sg_not]
      have hf := h k.toNat (by omega) (tk s u.t x) hz
      rw [hp, hbx] at hf
      rw [hf, Int.neg_mul]
    · cases ha
theorem Fit.runs {s : Nat} (hs : s ≤ 6) {m : Int} {W : List Wk} (hW : Ok m W) {H : Int → Nat → Int} (h : Fit s W H) {b : Nat → Int} : ∀ (w : List Int) (u v : St), (∀ k ∈ w, k ∈ stps W.length) → u.t < 8 → runs (adv W) u w = some v → (∀ x, x < s * s → H u.p (tk s u.t x) = sg u.m * b x) → ∀ x, x < s * s → H v.p (tk s v.t x) = sg v.m * b x
  | [], u, v, _, _, hr, hb => by
    simp only [Pl.runs, Option.some.injEq] at hr
    subst hr
    exact hb
  | k :: r, u, v, hw, hu, hr, hb => by
    rw [Pl.runs] at hr
    cases ha : adv W u k with
    | none => rw [ha] at hr; cases hr
    | some z =>
      rw [ha] at hr
      have hk := hw k List.mem_cons_self
      exact Fit.runs hs hW h r z v (fun x hx => hw x (List.mem_cons_of_mem _ hx)) (adv_in hW hk hu ha).2 hr (h.step hs hW hk hu ha hb)
/-- a closed walk says what its plate's heights are -/
theorem Fit.clo {s : Nat} (hs : s ≤ 6) {m : Int} {W : List Wk} (hW : Ok m W) {H : Int → Nat → Int} (h : Fit s W H) {p : Int} {t : Nat} {e : Bool} (hc : Clo W p t e) {x : Nat} (hx : x < s * s) : H p (tk s t x) = sg e * H p x := by
  obtain ⟨w, h1, h2⟩ := hc
  exact h.runs hs hW (b := H p) w _ _ h1 (by unfold start; simp only; omega) h2 (fun y hy => by
    unfold start
    simp only
    rw [(act hs hy).1]
    simp [sg]) x hx
theorem Fit.jn {s : Nat} (hs : s ≤ 6) {m : Int} (hm : m ≤ 6) {W : List Wk} (hW : Ok m W) {H : Int → Nat → Int} (h : Fit s W H) {p : Int} (hp : 0 ≤ p ∧ p < m) {x y : Nat} {e : Bool} (hx : x < s * s) (j : Jn (edges s (signs W p)) x y e) : H p y = sg e * H p x := by
  obtain ⟨t, ht, rfl⟩ := ((signs_grp hm hW hp).jn hs hx).1 j
  exact h.clo hs hW ((mem_signs hm hW hp).1 ht) hx
/-- the classes bind the heights -/
theorem Fit.bound {s : Nat} (hs : s ≤ 6) {m : Int} (hm : m ≤ 6) {W : List Wk} (hW : Ok m W) {H : Int → Nat → Int} (h : Fit s W H) {p : Int} (hp : 0 ≤ p ∧ p < m) {l : Nat → Nat} {w : Nat → Int} (hu : Uf (s * s) (edges s (signs W p)) l w) {x : Nat} (hx : x < s * s) : (w x = 0 → H p x = 0) ∧ (w x ≠ 0 → H p x = w x * H p (l x)) := by
  have lx := Nat.lt_of_le_of_lt (hu.le x hx) hx
  constructor
  · intro h0
    have := h.jn hs hm hW hp hx ((hu.iff hx hx true).2 ⟨rfl, Or.inl h0⟩)
    simp only [sg, if_true] at this
    omega
  · intro h0
    rcases hu.tri x hx with q | q | q
    · have := h.jn hs hm hW hp lx (hu.snd x false hx (Or.inr q)).symm
      rw [this, q]
      simp [sg]
    · have := h.jn hs hm hW hp lx (hu.snd x true hx (Or.inr q)).symm
      rw [this, q]
      simp [sg]
    · exact absurd q h0
theorem sumI_same : ∀ (l : List Nat) (f : Nat → Int) (c : Int), (∀ x ∈ l, f x = c) → sumI (l.map f) = l.length * c
  | [], _, _, _ => by simp [sumI]
  | x :: r, f, c, h => by
    have h2 := sumI_same r f c fun y hy => h y (List.mem_cons_of_mem _ hy)
    show f x + sumI (r.map f) = ((r.length + 1 : Nat) : Int) * c
    rw [h x List.mem_cons_self, h2, Int.natCast_add, Int.add_mul]
    omega
/-- one class without Minus: nothing is left but the mean -/
theorem Fit.level {s : Nat} (hs : s ≤ 6) {m : Int} (hm : m ≤ 6) {W : List Wk} (hW : Ok m W) {f : Int → Nat → Int} (h : Fit s W fun q => dev (s * s) (f q)) {p : Int} (hp : 0 ≤ p ∧ p < m) (hj : ∀ x, x < s * s → Jn (edges s (signs W p)) 0 x false) {x : Nat} (hx : x < s * s) : dev (s * s) (f p) x = 0 := by
  have same : ∀ y, y < s * s → dev (s * s) (f p) y = dev (s * s) (f p) 0 := fun y hy => by
    have := h.jn hs hm hW hp (by omega) (hj y hy)
    simpa [sg] using this
  have h0 := sum_dev (s * s) (f p)
  rw [sumI_same (List.range (s * s)) _ (dev (s * s) (f p) 0) (fun y hy => same y (List.mem_range.1 hy)), List.length_range] at h0
  rw [same x hx]
  rcases Int.mul_eq_zero.1 h0 with q | q
  · omega
  · exact q
end Pl
