/- Several texts one behind the other. -/
import Derived.Test.YtkcchangkhklcaaZMFyTf
import Derived.Test.YtkcchangkhklcaaZ06
set_option linter.unusedSimpArgs false
set_option linter.unusedVariables false
/- Package chain, mirrored: some fuel is always enough, and a system is consistent when it has a solution. -/
namespace Ch

theorem settleGo_wf {n : Nat} {L : List Lk} {drop : List Bool} (hok : ∀ j, j < L.length → okLk n (L.getD j noLk) = true) : ∀ {k : Nat} {x : St} {s : List Int}, WF n x → settleGo n L drop k x = some (some s) → ∃ y : St, WF n y ∧ y.s = s
  | 0, x, s, _, h => by cases h
  | k + 1, x, s, hw, h => by
    unfold settleGo at h
    split at h
    · cases h; exact ⟨x, hw, rfl⟩
    · rename_i u q hq
      have hu := (hw.q u (by rw [hq]; exact List.mem_cons_self)).1
      split at h
      · cases h
      · rename_i y hy
        exact settleGo_wf hok (relaxAll_wf hu (hw.take hq) (fun l hl => by
          obtain ⟨i, hi, rfl, _⟩ := mem_linksInto hl
          exact hok i hi) hy).1 h

/-- sums to begin with -/
structure Begin (n : Nat) (s : List Int) : Prop where
  len : s.length = n
  b : ∀ i, i < n → 0 ≤ s.getD i 0 ∧ s.getD i 0 ≤ 1152921504606846976
theorem Begin.wf {n : Nat} {s : List Int} (h : Begin n s) (h1 : 1 ≤ n) (h2 : n ≤ 60) : WF n (settle0 s) := by
  rw [← start0_all]
  exact start0_wf h1 h2 h.len h.b _ (by rw [h.len]; exact Nat.le_refl _)
theorem Begin.rx {n : Nat} {s : List Int} (h : Begin n s) (h2 : n ≤ 60) (L : List Lk) (drop : List Bool) : Rx n L drop (settle0 s) := by
  have hlen := h.len
  refine ⟨fun v hv hw => ?_, fun v hv => ?_⟩
  · have hw' : ((List.range 60).map fun v => decide (v < s.length) && s.getD v 0 != free).getD v false = true := hw
    rw [w_at (by omega), Bool.and_eq_true] at hw'
    exact List.mem_filter.2 ⟨List.mem_range.2 (by omega), hw'.2⟩
  · by_cases hf : s.getD v 0 = free
    · exact .inr (.inl hf)
    · exact .inl (List.mem_filter.2 ⟨List.mem_range.2 (by omega), by rw [bne_iff_ne]; exact hf⟩)
theorem Begin.paths {n : Nat} {s : List Int} (σ : Nat → Int) : Paths n σ (settle0 s) := fun v hv => by
  refine ⟨[v], List.nodup_cons.2 ⟨List.not_mem_nil, List.nodup_nil⟩, ?_, fun p hp => ?_⟩
  · show ((1 : Nat) : Int) = (List.replicate 60 (0 : Int)).getD v 0 + 1
    rw [List.getD, List.getElem?_replicate]
    split <;> rfl
  · rw [List.mem_singleton.1 hp]; exact ⟨hv, Int.le_refl _⟩
theorem begin_zero (n : Nat) : Begin n (List.replicate n 0) := ⟨List.length_replicate, fun i hi => by
  rw [List.getD, List.getElem?_replicate, if_pos hi]
  exact ⟨Int.le_refl _, by decide⟩⟩
theorem begin_to (n v : Nat) : Begin n ((unbound n).set v 0) := ⟨by unfold unbound; rw [List.length_set, List.length_replicate], fun i hi => by
  by_cases e : v = i
  · subst e
    rw [set_same (by unfold unbound; rw [List.length_replicate]; exact hi)]
    exact ⟨Int.le_refl _, by decide⟩
  · rw [set_other e]
    unfold unbound
    rw [List.getD, List.getElem?_replicate, if_pos hi]
    exact ⟨by decide, Int.le_refl _⟩⟩

/-- levels are a solution -/
theorem levels_sol {n : Nat} (h1 : 1 ≤ n) (h2 : n ≤ 60) {L : List Lk} {drop : List Bool} (hok : ∀ j, j < L.length → okLk n (L.getD j noLk) = true) {k : Nat} {s : List Int} (h : levels n L drop k = some (some s)) : Sol L drop (fun v => s.getD v 0) := by
  have hf := settleGo_finds hok ((begin_zero n).wf h1 h2) ((begin_zero n).rx h2 L drop) h
  intro v l hl
  obtain ⟨i, hi, e, ht⟩ := mem_linksInto hl
  have h9 := hok i hi
  rw [← e] at h9
  obtain ⟨_, _, t0, t1, _⟩ := okLk_spec h9
  have hv : v < n := by omega
  rcases hf.1 v hv with h3 | h3
  · have h4 := hf.2.1 v hv
    have h5 : (settle0 (List.replicate n 0)).s.getD v 0 = 0 := by
      show (List.replicate n (0 : Int)).getD v 0 = 0
      rw [List.getD, List.getElem?_replicate, if_pos hv]; rfl
    rw [h3, h5] at h4
    exact absurd h4 (by decide)
  · exact h3 l hl
/-- with fuel enough, consistent means: there is a solution -/
theorem cons_iff {n : Nat} (h1 : 1 ≤ n) (h2 : n ≤ 60) {L : List Lk} {drop : List Bool} (hok : ∀ j, j < L.length → okLk n (L.getD j noLk) = true) {k : Nat} (hk : meas (settle0 (List.replicate n 0)) < k) : cons n L drop k = true ↔ ∃ σ, Sol L drop σ := by
  have he := settleGo_ends (drop := drop) hok ((begin_zero n).wf h1 h2) hk
  constructor
  · intro h
    unfold cons at h
    split at h
    · rename_i s hs; exact ⟨_, levels_sol h1 h2 hok hs⟩
    · cases h
  · rintro ⟨σ, hσ⟩
    have h3 := settleGo_keeps (k := k) hok hσ ((begin_zero n).wf h1 h2) (Begin.paths σ)
    unfold cons levels settle
    cases hh : settleGo n L drop k (settle0 (List.replicate n 0)) with
    | none => rw [hh] at he; cases he
    | some R => cases R with
      | none => exact absurd hh h3
      | some s => rfl
theorem meas_all (n : Nat) : ∀ j : Nat, ∃ K, ∀ v, v < j → meas (settle0 ((unbound n).set v 0)) < K
  | 0 => ⟨0, fun v hv => by omega⟩
  | j + 1 => by
    obtain ⟨K, hK⟩ := meas_all n j
    refine ⟨K + meas (settle0 ((unbound n).set j 0)) + 1, fun v hv => ?_⟩
    by_cases e : v = j
    · subst e; omega
    · have := hK v (by omega); omega
/-- enough fuel there is -/
theorem enough_ex {n : Nat} (h1 : 1 ≤ n) (h2 : n ≤ 60) {L : List Lk} (hok : ∀ j, j < L.length → okLk n (L.getD j noLk) = true) : ∃ K, ∀ k drop, K ≤ k → enough n L drop k = true ∧ (cons n L drop k = true ↔ ∃ σ, Sol L drop σ) := by
  obtain ⟨K, hK⟩ := meas_all n n
  refine ⟨K + meas (settle0 (List.replicate n 0)) + 1, fun k drop hk => ⟨?_, cons_iff h1 h2 hok (by omega)⟩⟩
  have he := settleGo_ends (drop := drop) hok ((begin_zero n).wf h1 h2) (k := k) (by omega)
  unfold enough
  cases hh : levels n L drop k with
  | none =>
    have he' : (levels n L drop k).isSome = true := he
    rw [hh] at he'; cases he'
  | some R => cases R with
    | none => rfl
    | some s =>
      have hσ := levels_sol h1 h2 hok hh
      show (List.range n).all _ = true
      rw [List.all_eq_true]
      intro v hv
      have hv := List.mem_range.1 hv
      have hw := (begin_to n v).wf h1 h2
      have h3 := settleGo_keeps (k := k) hok hσ hw (Begin.paths _)
      have h4 := settleGo_ends (drop := drop) hok hw (k := k) (by have := hK v hv; omega)
      cases h5 : boundsTo n L drop k v with
      | none =>
        have h4' : (boundsTo n L drop k v).isSome = true := h4
        rw [h5] at h4'; cases h4'
      | some R => cases R with
        | none => exact absurd h5 h3
        | some z =>
          obtain ⟨y, hy, rfl⟩ := settleGo_wf hok hw h5
          show (y.s.length == n && y.s.all fun z => decide (-free ≤ z) && decide (z ≤ free)) = true
          rw [Bool.and_eq_true, beq_iff_eq, List.all_eq_true]
          refine ⟨hy.s, fun z hz => ?_⟩
          obtain ⟨i, hi, rfl⟩ := List.mem_iff_getElem.1 hz
          have hi' : i < n := by rw [← hy.s]; exact hi
          have e : y.s[i] = y.s.getD i 0 := by rw [List.getD, List.getElem?_eq_getElem hi]; rfl
          have ha := hy.hi i hi'
          have hb := hy.lo i hi'
          have hc := hy.cb i hi'
          rw [e, Bool.and_eq_true]
          unfold free
          exact ⟨decide_eq_true (by omega), decide_eq_true ha⟩
end Ch

/- Package chain, mirrored: the bounds that settle finds lie above those of every solution. -/
namespace Ch

/-- nodes that wait are reached, a sum is no greater than its links allow, and no solution goes above it -/
structure Ab (n : Nat) (σ : Nat → Int) (v : Nat) (x : St) : Prop where
  q : ∀ i ∈ x.q, x.s.getD i 0 ≠ free
  up : ∀ i, i < n → x.s.getD i 0 = free ∨ x.s.getD i 0 ≤ 4503599627370496 * x.c.getD i 0
  ab : ∀ i, i < n → x.s.getD i 0 = free ∨ σ i ≤ σ v + x.s.getD i 0

theorem Ab.low {n u f : Nat} {m : Int} {σ : Nat → Int} {v : Nat} {x : St} (hw : WF n x) (h : Ab n σ v x) (hu : u < n) (hf : f < n) (hm : m ≤ 4503599627370496) (hs : σ f ≤ σ u + m) (hsu : x.s.getD u 0 ≠ free) (hlt : x.s.getD u 0 + m < x.s.getD f 0) {w : List Bool} {q : List Nat} (hq : ∀ i ∈ q, i ∈ x.q ∨ i = f) :
    Ab n σ v ⟨x.s.set f (x.s.getD u 0 + m), w, x.c.set f (x.c.getD u 0 + 1), q⟩ := by
  have e1 : (x.s.set f (x.s.getD u 0 + m)).getD f 0 = x.s.getD u 0 + m := set_same (by rw [hw.s]; exact hf)
  have e2 : (x.c.set f (x.c.getD u 0 + 1)).getD f 0 = x.c.getD u 0 + 1 := set_same (by rw [hw.c]; have := hw.n2; omega)
  have e3 : ∀ p, p ≠ f → (x.s.set f (x.s.getD u 0 + m)).getD p 0 = x.s.getD p 0 := fun p hp => set_other (Ne.symm hp)
  have e4 : ∀ p, p ≠ f → (x.c.set f (x.c.getD u 0 + 1)).getD p 0 = x.c.getD p 0 := fun p hp => set_other (Ne.symm hp)
  have hhi := hw.hi f hf
  refine ⟨fun i hi => ?_, fun i hi => ?_, fun i hi => ?_⟩
  · show (x.s.set f (x.s.getD u 0 + m)).getD i 0 ≠ free
    by_cases e : i = f
    · rw [e, e1]; unfold free; omega
    · rw [e3 i e]
      exact h.q i ((hq i hi).resolve_right e)
  · show (x.s.set f (x.s.getD u 0 + m)).getD i 0 = free ∨ (x.s.set f (x.s.getD u 0 + m)).getD i 0 ≤ 4503599627370496 * (x.c.set f (x.c.getD u 0 + 1)).getD i 0
    by_cases e : i = f
    · rw [e, e1, e2]
      have := (h.up u hu).resolve_left hsu
      exact .inr (by omega)
    · rw [e3 i e, e4 i e]; exact h.up i hi
  · show (x.s.set f (x.s.getD u 0 + m)).getD i 0 = free ∨ σ i ≤ σ v + (x.s.set f (x.s.getD u 0 + m)).getD i 0
    by_cases e : i = f
    · rw [e, e1]
      have := (h.ab u hu).resolve_left hsu
      exact .inr (by omega)
    · rw [e3 i e]; exact h.ab i hi

theorem Ab.relax {n u : Nat} {σ : Nat → Int} {v : Nat} {l : Lk} {x y : St} (hw : WF n x) (h : Ab n σ v x) (hu : u < n) (hl : okLk n l = true) (hlu : l.f.toNat ≠ u) (hs : σ l.f.toNat ≤ σ u + l.m) (hsu : x.s.getD u 0 ≠ free) (hr : relax n u l x = some y) : Ab n σ v y ∧ y.s.getD u 0 ≠ free := by
  obtain ⟨f0, f1, _, _, _, _, m1⟩ := okLk_spec hl
  have hf : l.f.toNat < n := by omega
  have e4 : (x.s.set l.f.toNat (x.s.getD u 0 + l.m)).getD u 0 = x.s.getD u 0 := set_other hlu
  unfold Ch.relax at hr
  split at hr
  · cases hr; exact ⟨h, hsu⟩
  · rename_i h1
    split at hr
    · cases hr
    · split at hr
      · cases hr
        exact ⟨h.low hw hu hf m1 hs hsu (by omega) (fun i hi => .inl hi), by show (x.s.set l.f.toNat (x.s.getD u 0 + l.m)).getD u 0 ≠ free; rw [e4]; exact hsu⟩
      · cases hr
        exact ⟨h.low hw hu hf m1 hs hsu (by omega) (fun i hi => (List.mem_append.1 hi).imp id List.mem_singleton.1), by show (x.s.set l.f.toNat (x.s.getD u 0 + l.m)).getD u 0 ≠ free; rw [e4]; exact hsu⟩
theorem Ab.relaxAll {n u : Nat} {σ : Nat → Int} {v : Nat} (hu : u < n) : ∀ {ls : List Lk} {x y : St}, WF n x → Ab n σ v x → x.s.getD u 0 ≠ free → (∀ l ∈ ls, okLk n l = true ∧ l.f.toNat ≠ u ∧ σ l.f.toNat ≤ σ u + l.m) → Ch.relaxAll n u ls x = some y → Ab n σ v y
  | [], x, y, _, h, _, _, hr => by cases hr; exact h
  | l :: r, x, y, hw, h, hsu, hl, hr => by
    unfold Ch.relaxAll at hr
    split at hr
    · cases hr
    · rename_i z hz
      obtain ⟨h1, h2, h3⟩ := hl l List.mem_cons_self
      have h4 := h.relax hw hu h1 h2 h3 hsu hz
      exact Ab.relaxAll hu (hw.relax hu h1 hz) h4.1 h4.2 (fun k hk => hl k (List.mem_cons_of_mem _ hk)) hr
theorem settleGo_above {n : Nat} {L : List Lk} {drop : List Bool} {σ : Nat → Int} {v : Nat} (hok : ∀ j, j < L.length → okLk n (L.getD j noLk) = true) (hσ : Sol L drop σ) : ∀ {k : Nat} {x : St} {s : List Int}, WF n x → Ab n σ v x → settleGo n L drop k x = some (some s) → ∃ y : St, WF n y ∧ Ab n σ v y ∧ y.s = s
  | 0, x, s, _, _, h => by cases h
  | k + 1, x, s, hw, hx, h => by
    unfold settleGo at h
    split at h
    · cases h; exact ⟨x, hw, hx, rfl⟩
    · rename_i u q hq
      have hu := (hw.q u (by rw [hq]; exact List.mem_cons_self)).1
      split at h
      · cases h
      · rename_i y hy
        have hls : ∀ l ∈ linksInto L drop u, okLk n l = true ∧ l.f.toNat ≠ u ∧ σ l.f.toNat ≤ σ u + l.m := fun l hl => by
          obtain ⟨i, hi, e, ht⟩ := mem_linksInto hl
          have h1 := hok i hi
          rw [← e] at h1
          obtain ⟨f0, _, _, _, hne, _⟩ := okLk_spec h1
          exact ⟨h1, fun e2 => hne (by omega), hσ u l hl⟩
        have h0 : Ab n σ v { x with w := x.w.set u false, q := q } := ⟨fun i hi => hx.q i (by rw [hq]; exact List.mem_cons_of_mem _ hi), hx.up, hx.ab⟩
        have h2 := Ab.relaxAll hu (hw.take hq) h0 (hx.q u (by rw [hq]; exact List.mem_cons_self)) hls hy
        exact settleGo_above hok hσ (relaxAll_wf hu (hw.take hq) (fun l hl => (hls l hl).1) hy).1 h2 h

/-- the bounds to a node: above every solution's differences; a node reached is within 60 links; and they keep every link of a reached node -/
theorem boundsTo_spec {n : Nat} (h1 : 1 ≤ n) (h2 : n ≤ 60) {L : List Lk} {drop : List Bool} (hok : ∀ j, j < L.length → okLk n (L.getD j noLk) = true) {k v : Nat} {s : List Int} (h : boundsTo n L drop k v = some (some s)) :
    (∀ i, i < n → s.getD i 0 = free ∨ ∀ l ∈ linksInto L drop i, s.getD l.f.toNat 0 ≤ s.getD i 0 + l.m) ∧
    ∀ σ, Sol L drop σ → ∀ i, i < n → s.getD i 0 = free ∨ (s.getD i 0 ≤ 265712378014859264 ∧ σ i ≤ σ v + s.getD i 0) := by
  have hw := (begin_to n v).wf h1 h2
  refine ⟨(settleGo_finds hok hw ((begin_to n v).rx h2 L drop) h).1, fun σ hσ i hi => ?_⟩
  have h0 : Ab n σ v (settle0 ((unbound n).set v 0)) := by
    have e : ∀ j, j < n → ((unbound n).set v 0).getD j 0 = free ∨ (j = v ∧ ((unbound n).set v 0).getD j 0 = 0) := fun j hj => by
      by_cases e : v = j
      · subst e
        exact .inr ⟨rfl, set_same (by unfold unbound; rw [List.length_replicate]; exact hj)⟩
      · rw [set_other e]
        unfold unbound
        rw [List.getD, List.getElem?_replicate, if_pos hj]
        exact .inl rfl
    refine ⟨fun j hj => ?_, fun j hj => ?_, fun j hj => ?_⟩
    · have h3 := (List.mem_filter.1 hj).2
      rw [bne_iff_ne] at h3
      exact h3
    · rcases e j hj with h3 | ⟨_, h3⟩
      · exact .inl h3
      · have h4 := (hw.cb j hj).1
        refine .inr ?_
        show ((unbound n).set v 0).getD j 0 ≤ _
        rw [h3]
        omega
    · rcases e j hj with h3 | ⟨h3, h4⟩
      · exact .inl h3
      · refine .inr ?_
        show σ j ≤ σ v + ((unbound n).set v 0).getD j 0
        rw [h4, h3]; omega
  obtain ⟨y, hy, ha, rfl⟩ := settleGo_above hok hσ hw h0 h
  rcases ha.ab i hi with h3 | h3
  · exact .inl h3
  · rcases ha.up i hi with h4 | h4
    · exact .inl h4
    · have := (hy.cb i hi).2
      exact .inr ⟨by omega, h3⟩
end Ch

/- Package chain, mirrored: settle's bounds are those of a table without shorter ways. -/
namespace Ch

theorem upper (g : Nat → Int) : ∀ n : Nat, ∃ B, ∀ i, i < n → g i ≤ B
  | 0 => ⟨0, fun i hi => by omega⟩
  | n + 1 => by
    obtain ⟨B, hB⟩ := upper g n
    by_cases h : g n ≤ B
    · exact ⟨B, fun i hi => by
        by_cases e : i = n
        · rw [e]; exact h
        · exact hB i (by omega)⟩
    · exact ⟨g n, fun i hi => by
        by_cases e : i = n
        · rw [e]; exact Int.le_refl _
        · have := hB i (by omega); omega⟩

/-- a table's bounds come from ways over the links -/
def Ways (L : List Lk) (drop : List Bool) (D : Nat → Nat → Option Int) : Prop :=
  ∀ (R : Nat → Prop) (τ : Nat → Int), (∀ t, R t → ∀ l ∈ linksInto L drop t, R l.f.toNat ∧ τ l.f.toNat ≤ τ t + l.m) → ∀ u v z, D u v = some z → R v → R u ∧ τ u ≤ τ v + z
theorem Ways.step {L : List Lk} {drop : List Bool} {D : Nat → Nat → Option Int} (h : Ways L drop D) (k : Nat) : Ways L drop (fyStep D k) := fun R τ hR u v z hz hv => by
  rcases fy_new hz with h1 | ⟨x, y, h1, h2, rfl⟩
  · exact h R τ hR u v z h1 hv
  · obtain ⟨h3, h4⟩ := h R τ hR k v y h2 hv
    obtain ⟨h5, h6⟩ := h R τ hR u k x h1 h3
    exact ⟨h5, by omega⟩

theorem bt_fy {n : Nat} (n1 : 1 ≤ n) (n2 : n ≤ 60) {L : List Lk} {drop : List Bool} (hok : ∀ j, j < L.length → okLk n (L.getD j noLk) = true) {k v : Nat} (hv : v < n) {s : List Int} (h : boundsTo n L drop k v = some (some s))
    {D : Nat → Nat → Option Int} (hT : Tri D n) (hd : ∀ u, u < n → D u u = some 0) (hl : ∀ t, ∀ l ∈ linksInto L drop t, ∃ z, D l.f.toNat t = some z ∧ z ≤ l.m) (hp : Ways L drop D) :
    ∀ i, i < n → s.getD i 0 = (D i v).getD free := by
  have hlt : ∀ t, ∀ l ∈ linksInto L drop t, t < n ∧ l.f.toNat < n ∧ -4503599627370496 ≤ l.m ∧ l.m ≤ 4503599627370496 := fun t l hl2 => by
    obtain ⟨i, hi, e, ht⟩ := mem_linksInto hl2
    have h9 := hok i hi
    rw [← e] at h9
    obtain ⟨f0, f1, t0, t1, _, m0, m1⟩ := okLk_spec h9
    exact ⟨by omega, by omega, m0, m1⟩
  obtain ⟨hs1, hs2⟩ := boundsTo_spec n1 n2 hok h
  have hs3 : s.getD v 0 ≤ 0 := by
    have h3 := (settleGo_finds hok ((begin_to n v).wf n1 n2) ((begin_to n v).rx n2 L drop) h).2.1 v hv
    have h4 : (settle0 ((unbound n).set v 0)).s.getD v 0 = 0 := by
      show ((unbound n).set v 0).getD v 0 = 0
      exact set_same (by unfold unbound; rw [List.length_replicate]; exact hv)
    rw [h4] at h3; exact h3
  obtain ⟨ξ, hξ⟩ := fy_sol hT (fun u hu => by rw [hd u hu]; rfl)
  have hη : Sol L drop (fun i => - ξ i) := fun t l hl2 => by
    obtain ⟨z, hz, hzl⟩ := hl t l hl2
    obtain ⟨h3, h4, _⟩ := hlt t l hl2
    have := hξ l.f.toNat t z h4 h3 hz
    show - ξ l.f.toNat ≤ - ξ t + l.m
    omega
  obtain ⟨B1, hB1⟩ := upper (fun i => (D i v).getD 0) n
  obtain ⟨B2, hB2⟩ := upper ξ n
  have hσ : ∀ M, B1 + B2 + 4503599627370496 ≤ M → Sol L drop (fun i => (D i v).getD (M - ξ i)) := fun M hM t l hl2 => by
    obtain ⟨z, hz, hzl⟩ := hl t l hl2
    obtain ⟨h3, h4, h5, _⟩ := hlt t l hl2
    show (D l.f.toNat v).getD (M - ξ l.f.toNat) ≤ (D t v).getD (M - ξ t) + l.m
    cases ht : D t v with
    | some b =>
      obtain ⟨c, hc, hcl⟩ := hT t h3 _ _ z b hz ht
      rw [hc]
      show c ≤ b + l.m
      omega
    | none =>
      show (D l.f.toNat v).getD (M - ξ l.f.toNat) ≤ M - ξ t + l.m
      have h7 := hB2 t h3
      cases hf : D l.f.toNat v with
      | some c =>
        have h6 := hB1 _ h4
        simp only [hf, Option.getD_some] at h6 ⊢
        omega
      | none =>
        have h8 := hξ l.f.toNat t z h4 h3 hz
        show M - ξ l.f.toNat ≤ M - ξ t + l.m
        omega
  have hR : ∀ t, (t < n ∧ s.getD t 0 ≠ free) → ∀ l ∈ linksInto L drop t, (l.f.toNat < n ∧ s.getD l.f.toNat 0 ≠ free) ∧ s.getD l.f.toNat 0 ≤ s.getD t 0 + l.m := fun t ⟨ht, htf⟩ l hl2 => by
    obtain ⟨_, h4, h5, h6⟩ := hlt t l hl2
    have h7 := (hs1 t ht).resolve_left htf l hl2
    have h8 := ((hs2 _ hη t ht).resolve_left htf).1
    exact ⟨⟨h4, by unfold free; omega⟩, h7⟩
  intro i hi
  cases hD : D i v with
  | some a =>
    obtain ⟨⟨_, h3⟩, h4⟩ := hp (fun t => t < n ∧ s.getD t 0 ≠ free) (fun t => s.getD t 0) hR i v a hD ⟨hv, by unfold free; omega⟩
    have h5 := ((hs2 _ (hσ _ (Int.le_refl _)) i hi).resolve_left h3).2
    simp only [hD, hd v hv, Option.getD_some] at h5
    show s.getD i 0 = a
    have h4' : s.getD i 0 ≤ s.getD v 0 + a := h4
    omega
  | none =>
    show s.getD i 0 = free
    by_cases hf : s.getD i 0 = free
    · exact hf
    · have hb := hB2 i hi
      have h5 := (hs2 _ (hσ (B1 + B2 + 4503599627370496 + (265712378014859264 + B2 + 1) + (if 0 ≤ B1 + B2 then 0 else -(B1 + B2)) + (if 0 ≤ B2 then 0 else - B2)) (by split <;> split <;> omega)) i hi).resolve_left hf
      obtain ⟨h6, h7⟩ := h5
      simp only [hD, hd v hv, Option.getD_some, Option.getD_none] at h7
      revert h7
      split <;> split <;> intro h7 <;> omega
end Ch
