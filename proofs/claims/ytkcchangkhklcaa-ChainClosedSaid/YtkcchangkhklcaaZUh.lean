/- Package chain, mirrored: a further link, and the bounds that it makes. -/
import Derived.Test.YtkcchangkhklcaaZUg
set_option linter.unusedSimpArgs false
set_option linter.unusedVariables false
namespace Ch

theorem way_left {L M : List Lk} : ∀ {l : List Nat} {u v w : Int}, way L [] u l v w → way (L ++ M) [] u l v w
  | [], _, _, _, h => h
  | i :: r, u, v, w, h => by
    obtain ⟨h0, hd, hf, ht⟩ := h
    refine ⟨by rw [List.length_append]; omega, rfl, by rw [getD_left h0]; exact hf, ?_⟩
    rw [getD_left h0]
    exact way_left ht
theorem last_lk {L : List Lk} {x : Lk} : (L ++ [x]).getD L.length noLk = x := getD_right (M := [x]) (i := 0)
/-- all bounds of a system with a solution -/
def TB (n : Nat) (L : List Lk) (D : Nat → Nat → Int) : Prop := ∀ v, v < n → ∃ s, BT n L [] v s ∧ ∀ u, u < n → s.getD u 0 = D u v
theorem TB.up {n : Nat} {L : List Lk} {D : Nat → Nat → Int} (h : TB n L D) {u v : Nat} (hu : u < n) (hv : v < n) {l : List Nat} {w : Int} (hw : way L [] u l v w) : D u v ≤ w ∧ D u v ≠ free := by
  obtain ⟨s, hB, hs⟩ := h v hv
  have := hB.up hw
  rw [show (u : Int).toNat = u from rfl, hs u hu] at this
  exact this
theorem TB.way {n : Nat} {L : List Lk} {D : Nat → Nat → Int} (h : TB n L D) {u v : Nat} (hu : u < n) (hv : v < n) (hf : D u v ≠ free) : ∃ l, way L [] u l v (D u v) := by
  obtain ⟨s, hB, hs⟩ := h v hv
  obtain ⟨l, _, hl⟩ := hB.at' u hu (by rw [hs u hu]; exact hf)
  rw [hs u hu] at hl
  exact ⟨l, hl⟩
theorem TB.zero {n : Nat} {L : List Lk} {D : Nat → Nat → Int} (h : TB n L D) {v : Nat} (hv : v < n) : D v v = 0 := by
  obtain ⟨s, hB, hs⟩ := h v hv
  rw [← hs v hv]; exact hB.zero
theorem TB.range {n : Nat} {L : List Lk} {D : Nat → Nat → Int} (h : TB n L D) {u v : Nat} (hu : u < n) (hv : v < n) : -265712378014859264 ≤ D u v ∧ (D u v = 1152921504606846976 ∨ D u v ≤ 265712378014859264) := by
  obtain ⟨s, hB, hs⟩ := h v hv
  rw [← hs u hu]
  exact ⟨hB.lo u hu, hB.hi u hu⟩

theorem TB.tri {n : Nat} {L : List Lk} {D : Nat → Nat → Int} (h : TB n L D) {u v w : Nat} (hu : u < n) (hv : v < n) (hw : w < n) (h1 : D u v ≠ free) (h2 : D v w ≠ free) : D u w ≤ D u v + D v w ∧ D u w ≠ free := by
  obtain ⟨l, hl⟩ := h.way hu hv h1
  obtain ⟨r, hr⟩ := h.way hv hw h2
  exact h.up hu hw (way_append hl hr)
/-- a chain that goes by the new link at most once -/
def Wm (D : Nat → Nat → Int) (x : Lk) (v u : Nat) (s : Int) : Prop := (D u v ≠ free ∧ D u v ≤ s) ∨ (D u x.f.toNat ≠ free ∧ D x.t.toNat v ≠ free ∧ D u x.f.toNat + x.m + D x.t.toNat v ≤ s)

theorem more_way {n : Nat} {L : List Lk} {x : Lk} (hok : ∀ j, j < L.length → okLk n (L.getD j noLk) = true) (hx : okLk n x = true) {D : Nat → Nat → Int} (hD : TB n L D) (H : D x.t.toNat x.f.toNat = free ∨ 0 ≤ x.m + D x.t.toNat x.f.toNat) {v : Nat} (hv : v < n) :
    ∀ {l : List Nat} {u s : Int}, way (L ++ [x]) [] u l v s → Wm D x v u.toNat s
  | [], u, s, h => by
    obtain ⟨rfl, rfl⟩ := h
    rw [show ((v : Int).toNat) = v from rfl]
    have := hD.zero hv
    exact .inl ⟨by rw [this]; decide, by rw [this]; exact Int.le_refl _⟩
  | i :: r, u, s, h => by
    obtain ⟨f0, f1, t0, t1, _⟩ := okLk_spec hx
    obtain ⟨h0, _, hf, ht⟩ := h
    rw [List.length_append] at h0
    have h0 : i < L.length + 1 := h0
    have ih := more_way hok hx hD H hv ht
    by_cases hi : i < L.length
    · rw [getD_left hi] at hf ih
      obtain ⟨g0, g1, k0, k1, _⟩ := okLk_spec (hok i hi)
      have hw1 := way_one (L := L) (drop := []) hi rfl
      have step : ∀ y, y < n → D (L.getD i noLk).t.toNat y ≠ free → D u.toNat y ≤ (L.getD i noLk).m + D (L.getD i noLk).t.toNat y ∧ D u.toNat y ≠ free := fun y hy hne => by
        obtain ⟨l, hl⟩ := hD.way (by omega) hy hne
        rw [show (((L.getD i noLk).t.toNat : Nat) : Int) = (L.getD i noLk).t by omega] at hl
        have := way_append hw1 hl
        rw [hf, show u = ((u.toNat : Nat) : Int) by omega] at this
        exact hD.up (by omega) hy this
      rcases ih with ⟨a1, a2⟩ | ⟨a1, a2, a3⟩
      · obtain ⟨b1, b2⟩ := step v hv a1
        exact .inl ⟨b2, by omega⟩
      · obtain ⟨b1, b2⟩ := step x.f.toNat (by omega) a1
        exact .inr ⟨b2, a2, by omega⟩
    · obtain rfl : i = L.length := by omega
      rw [last_lk] at hf ih
      have hz := hD.zero (v := x.f.toNat) (by omega)
      have hfin : D x.f.toNat x.f.toNat ≠ free := by rw [hz]; decide
      rw [← hf]
      rcases ih with ⟨a1, a2⟩ | ⟨a1, a2, a3⟩
      · exact .inr ⟨hfin, a1, by rw [hz]; omega⟩
      · refine .inr ⟨hfin, a2, ?_⟩
        rcases H with H | H
        · exact absurd H a1
        · rw [hz]; omega
theorem more_ok {n : Int} {L : List Lk} {x : Lk} (h : (check n (L ++ [x])).1 = 0) : okLk n x = true := by
  obtain ⟨_, _, _, hok⟩ := check_ok h
  have := hok L.length (by rw [List.length_append]; exact Nat.lt_succ_self _)
  rwa [last_lk] at this

theorem more_sol {n : Nat} {L : List Lk} {x : Lk} (hok : ∀ j, j < L.length → okLk n (L.getD j noLk) = true) (hx : okLk n x = true) {D : Nat → Nat → Int} (hD : TB n L D) :
    (∃ σ, Sol (L ++ [x]) [] σ) ↔ D x.t.toNat x.f.toNat = free ∨ 0 ≤ x.m + D x.t.toNat x.f.toNat := by
  obtain ⟨f0, f1, t0, t1, _⟩ := okLk_spec hx
  have hokM : ∀ j, j < (L ++ [x]).length → okLk n ((L ++ [x]).getD j noLk) = true := fun j hj => by
    rw [List.length_append] at hj
    have hj : j < L.length + 1 := hj
    by_cases h : j < L.length
    · rw [getD_left h]; exact hok j h
    · obtain rfl : j = L.length := by omega
      rw [last_lk]; exact hx
  have hw1 := way_one (L := L ++ [x]) (drop := []) (i := L.length) (by rw [List.length_append]; exact Nat.lt_succ_self _) rfl
  rw [last_lk] at hw1
  constructor
  · rintro ⟨σ, hs⟩
    by_cases h : D x.t.toNat x.f.toNat = free
    · exact .inl h
    · obtain ⟨l, hl⟩ := hD.way (by omega) (by omega) h
      rw [show ((x.t.toNat : Nat) : Int) = x.t by omega, show ((x.f.toNat : Nat) : Int) = x.f by omega] at hl
      have h1 := sol_no_neg hokM hs (way_append hw1 (way_left (M := [x]) hl))
      exact .inr h1
  · intro h
    refine Classical.byContradiction fun hno => ?_
    obtain ⟨u, l, w, hl, hw, hl1, _⟩ := no_sol_way hokM hno
    have hu : 0 ≤ u ∧ u < n := by
      cases l with
      | nil => simp at hl1
      | cons i r =>
        have := okLk_spec (hokM i hl.1)
        have e := hl.2.2.1
        omega
    have hl' : way (L ++ [x]) [] u l ((u.toNat : Nat) : Int) w := by rw [show ((u.toNat : Nat) : Int) = u by omega]; exact hl
    have hz := hD.zero (v := u.toNat) (by omega)
    rcases more_way hok hx hD h (v := u.toNat) (by omega) hl' with ⟨_, a2⟩ | ⟨a1, a2, a3⟩
    · omega
    · obtain ⟨b1, b2⟩ := hD.tri (u := x.t.toNat) (v := u.toNat) (w := x.f.toNat) (by omega) (by omega) (by omega) a2 a1
      rcases h with h | h
      · exact b2 h
      · omega
/-- the new bounds -/
theorem more_bound {n : Nat} {L : List Lk} {x : Lk} (hok : ∀ j, j < L.length → okLk n (L.getD j noLk) = true) (hx : okLk n x = true) {D E : Nat → Nat → Int} (hD : TB n L D) (hE : TB n (L ++ [x]) E) (H : D x.t.toNat x.f.toNat = free ∨ 0 ≤ x.m + D x.t.toNat x.f.toNat) {u v : Nat} (hu : u < n) (hv : v < n) :
    E u v = if D u x.f.toNat < free ∧ D x.t.toNat v < free then min (D u v) (D u x.f.toNat + x.m + D x.t.toNat v) else D u v := by
  obtain ⟨f0, f1, t0, t1, _, m0, m1⟩ := okLk_spec hx
  have r1 := hD.range hu hv
  have r2 := hD.range (u := u) (v := x.f.toNat) hu (by omega)
  have r3 := hD.range (u := x.t.toNat) (v := v) (by omega) hv
  have r4 := hE.range hu hv
  have g1 : D u v ≠ free → E u v ≤ D u v ∧ E u v ≠ free := fun h => by
    obtain ⟨l, hl⟩ := hD.way hu hv h
    exact hE.up hu hv (way_left (M := [x]) hl)
  have g2 : D u x.f.toNat ≠ free → D x.t.toNat v ≠ free → E u v ≤ D u x.f.toNat + x.m + D x.t.toNat v ∧ E u v ≠ free := fun h1 h2 => by
    obtain ⟨l, hl⟩ := hD.way hu (by omega) h1
    obtain ⟨r, hr⟩ := hD.way (by omega) hv h2
    have hw1 := way_one (L := L ++ [x]) (drop := []) (i := L.length) (by rw [List.length_append]; exact Nat.lt_succ_self _) rfl
    rw [last_lk] at hw1
    rw [show ((x.f.toNat : Nat) : Int) = x.f by omega] at hl
    rw [show ((x.t.toNat : Nat) : Int) = x.t by omega] at hr
    exact hE.up hu hv (way_append (way_append (way_left (M := [x]) hl) hw1) (way_left (M := [x]) hr))
  have g3 : E u v ≠ free → Wm D x v u (E u v) := fun h => by
    obtain ⟨l, hl⟩ := hE.way hu hv h
    have := more_way hok hx hD H hv hl
    exact this
  unfold Wm at g3
  unfold free at *
  by_cases hc : D u x.f.toNat < 1152921504606846976 ∧ D x.t.toNat v < 1152921504606846976
  · rw [if_pos hc]
    have g4 := g2 (by omega) (by omega)
    rcases g3 g4.2 with ⟨a1, a2⟩ | ⟨a1, a2, a3⟩
    · have := g1 a1; omega
    · by_cases h : D u v = 1152921504606846976
      · omega
      · have := g1 h; omega
  · rw [if_neg hc]
    by_cases h : E u v = 1152921504606846976
    · by_cases h2 : D u v = 1152921504606846976
      · omega
      · exact absurd h (g1 h2).2
    · rcases g3 h with ⟨a1, a2⟩ | ⟨a1, a2, a3⟩
      · have := g1 a1; omega
      · omega
/-- the bound against the new link stays -/
theorem more_back {n : Nat} {L : List Lk} {x : Lk} (hok : ∀ j, j < L.length → okLk n (L.getD j noLk) = true) (hx : okLk n x = true) {D E : Nat → Nat → Int} (hD : TB n L D) (hE : TB n (L ++ [x]) E) (H : D x.t.toNat x.f.toNat = free ∨ 0 ≤ x.m + D x.t.toNat x.f.toNat) : E x.t.toNat x.f.toNat = D x.t.toNat x.f.toNat := by
  obtain ⟨f0, f1, t0, t1, _, m0, m1⟩ := okLk_spec hx
  rw [more_bound hok hx hD hE H (u := x.t.toNat) (v := x.f.toNat) (by omega) (by omega)]
  have r1 := hD.range (u := x.t.toNat) (v := x.f.toNat) (by omega) (by omega)
  unfold free at *
  split
  · omega
  · rfl

/-- the table of all bounds -/
def tb (n : Int) (L : List Lk) (k u v : Nat) : Int := (bt n.toNat L [] k v).getD u 0
theorem tb_of {n : Int} {L : List Lk} {k : Nat} (hE : EN n L k) (h : opn n L [] k = 0) : (check n L).1 = 0 ∧ (∃ σ, Sol L [] σ) ∧ TB n.toNat L (tb n L k) := by
  obtain ⟨c1, _, c3⟩ := opn_ok h
  obtain ⟨n1, n2, _, hok⟩ := check_ok c1
  have hok' : ∀ j, j < L.length → okLk n.toNat (L.getD j noLk) = true := by rw [show ((n.toNat : Nat) : Int) = n by omega]; exact hok
  have hs := hE.cons c1 c3
  refine ⟨c1, hs, fun v hv => ?_⟩
  obtain ⟨b1, _, _⟩ := enough_bt (hE.en c1) c3 (v := v) hv
  exact ⟨_, bt_spec (by omega) (by omega) hok' hv b1 hs, fun u _ => rfl⟩
end Ch
