/- Package chain, mirrored: the bounds that settle finds lie above those of every solution. -/
import Derived.Test.YtkcchangkhklcaaZTg
set_option linter.unusedSimpArgs false
set_option linter.unusedVariables false
namespace Ch

/-- nodes that wait are reached, a sum is no greater than its links allow, and no solution goes above it -/
structure Ab (n : Nat) (σ : Nat → Int) (v : Nat) (x : St) : Prop where
  q : ∀ i ∈ x.q, x.s.getD i 0 ≠ free
  up : ∀ i, i < n → x.s.getD i 0 = free ∨ x.s.getD i 0 ≤ 4503599627370496 * x.c.getD i 0
  ab : ∀ i, i < n → x.s.getD i 0 = free ∨ σ i ≤ σ v + x.s.getD i 0

theorem Ab.low {n u f : Nat} {m : Int} {σ : Nat → Int} {v : Nat} {x : St} (hw : WF n x) (h : Ab n σ v x) (hu : u < n) (hf : f < n) (hm : m ≤ 4503599627370496) (hs : σ f ≤ σ u + m) (hsu : x.s.getD u 0 ≠ free) (hlt : x.s.getD u 0 + m < x.s.getD f 0) {w : List Bool} {q : List Nat} (hq : ∀ i ∈ q, i ∈ x.q ∨ i = f) :
    Ab n σ v ⟨x.s.set f (x.s.getD u 0 + m), w, x.c.set f (x.c.getD u 0 + 1), q⟩ := by
  have e1 : (x.s.set f (x.s.getD u 0 + m)).getD f 0 = x.s.getD u 0 + m := set_same (by rw [hw.s]; exact hf)
  have e2 : (x.c.set f (x.c.getD u 0 + 1)).getD f 0 = x.c.getD u 0 + 1 := set_same (by rw [hw.c]; have := hw.n2; omega)
  have e3 : ∀ p, p ≠ f → (x.s.set f (x.s.getD u 0 + m)).getD p 0 = x.s.getD p 0 := fun p hp => set_other (Ne.symm hp)
  have e4 : ∀ p, p ≠ f → (x.c.set f (x.c.getD u 0 + 1)).getD p 0 = x.c.getD p 0 := fun p hp => set_other (Ne.symm hp)
  have hhi := hw.hi f hf
  refine ⟨fun i hi => ?_, fun i hi => ?_, fun i hi => ?_⟩
  · show (x.s.set f (x.s.getD u 0 + m)).getD i 0 ≠ free
    by_cases e : i = f
    · rw [e, e1]; unfold free; omega
    · rw [e3 i e]
      exact h.q i ((hq i hi).resolve_right e)
  · show (x.s.set f (x.s.getD u 0 + m)).getD i 0 = free ∨ (x.s.set f (x.s.getD u 0 + m)).getD i 0 ≤ 4503599627370496 * (x.c.set f (x.c.getD u 0 + 1)).getD i 0
    by_cases e : i = f
    · rw [e, e1, e2]
      have := (h.up u hu).resolve_left hsu
      exact .inr (by omega)
    · rw [e3 i e, e4 i e]; exact h.up i hi
  · show (x.s.set f (x.s.getD u 0 + m)).getD i 0 = free ∨ σ i ≤ σ v + (x.s.set f (x.s.getD u 0 + m)).getD i 0
    by_cases e : i = f
    · rw [e, e1]
      have := (h.ab u hu).resolve_left hsu
      exact .inr (by omega)
    · rw [e3 i e]; exact h.ab i hi

theorem Ab.relax {n u : Nat} {σ : Nat → Int} {v : Nat} {l : Lk} {x y : St} (hw : WF n x) (h : Ab n σ v x) (hu : u < n) (hl : okLk n l = true) (hlu : l.f.toNat ≠ u) (hs : σ l.f.toNat ≤ σ u + l.m) (hsu : x.s.getD u 0 ≠ free) (hr : relax n u l x = some y) : Ab n σ v y ∧ y.s.getD u 0 ≠ free := by
  obtain ⟨f0, f1, _, _, _, _, m1⟩ := okLk_spec hl
  have hf : l.f.toNat < n := by omega
  have e4 : (x.s.set l.f.toNat (x.s.getD u 0 + l.m)).getD u 0 = x.s.getD u 0 := set_other hlu
  unfold Ch.relax at hr
  split at hr
  · cases hr; exact ⟨h, hsu⟩
  · rename_i h1
    split at hr
    · cases hr
    · split at hr
      · cases hr
        exact ⟨h.low hw hu hf m1 hs hsu (by omega) (fun i hi => .inl hi), by show (x.s.set l.f.toNat (x.s.getD u 0 + l.m)).getD u 0 ≠ free; rw [e4]; exact hsu⟩
      · cases hr
        exact ⟨h.low hw hu hf m1 hs hsu (by omega) (fun i hi => (List.mem_append.1 hi).imp id List.mem_singleton.1), by show (x.s.set l.f.toNat (x.s.getD u 0 + l.m)).getD u 0 ≠ free; rw [e4]; exact hsu⟩
theorem Ab.relaxAll {n u : Nat} {σ : Nat → Int} {v : Nat} (hu : u < n) : ∀ {ls : List Lk} {x y : St}, WF n x → Ab n σ v x → x.s.getD u 0 ≠ free → (∀ l ∈ ls, okLk n l = true ∧ l.f.toNat ≠ u ∧ σ l.f.toNat ≤ σ u + l.m) → Ch.relaxAll n u ls x = some y → Ab n σ v y
  | [], x, y, _, h, _, _, hr => by cases hr; exact h
  | l :: r, x, y, hw, h, hsu, hl, hr => by
    unfold Ch.relaxAll at hr
    split at hr
    · cases hr
    · rename_i z hz
      obtain ⟨h1, h2, h3⟩ := hl l List.mem_cons_self
      have h4 := h.relax hw hu h1 h2 h3 hsu hz
      exact Ab.relaxAll hu (hw.relax hu h1 hz) h4.1 h4.2 (fun k hk => hl k (List.mem_cons_of_mem _ hk)) hr
theorem settleGo_above {n : Nat} {L : List Lk} {drop : List Bool} {σ : Nat → Int} {v : Nat} (hok : ∀ j, j < L.length → okLk n (L.getD j noLk) = true) (hσ : Sol L drop σ) : ∀ {k : Nat} {x : St} {s : List Int}, WF n x → Ab n σ v x → settleGo n L drop k x = some (some s) → ∃ y : St, WF n y ∧ Ab n σ v y ∧ y.s = s
  | 0, x, s, _, _, h => by cases h
  | k + 1, x, s, hw, hx, h => by
    unfold settleGo at h
    split at h
    · cases h; exact ⟨x, hw, hx, rfl⟩
    · rename_i u q hq
      have hu := (hw.q u (by rw [hq]; exact List.mem_cons_self)).1
      split at h
      · cases h
      · rename_i y hy
        have hls : ∀ l ∈ linksInto L drop u, okLk n l = true ∧ l.f.toNat ≠ u ∧ σ l.f.toNat ≤ σ u + l.m := fun l hl => by
          obtain ⟨i, hi, e, ht⟩ := mem_linksInto hl
          have h1 := hok i hi
          rw [← e] at h1
          obtain ⟨f0, _, _, _, hne, _⟩ := okLk_spec h1
          exact ⟨h1, fun e2 => hne (by omega), hσ u l hl⟩
        have h0 : Ab n σ v { x with w := x.w.set u false, q := q } := ⟨fun i hi => hx.q i (by rw [hq]; exact List.mem_cons_of_mem _ hi), hx.up, hx.ab⟩
        have h2 := Ab.relaxAll hu (hw.take hq) h0 (hx.q u (by rw [hq]; exact List.mem_cons_self)) hls hy
        exact settleGo_above hok hσ (relaxAll_wf hu (hw.take hq) (fun l hl => (hls l hl).1) hy).1 h2 h

/-- the bounds to a node: above every solution's differences; a node reached is within 60 links; and they keep every link of a reached node -/
theorem boundsTo_spec {n : Nat} (h1 : 1 ≤ n) (h2 : n ≤ 60) {L : List Lk} {drop : List Bool} (hok : ∀ j, j < L.length → okLk n (L.getD j noLk) = true) {k v : Nat} {s : List Int} (h : boundsTo n L drop k v = some (some s)) :
    (∀ i, i < n → s.getD i 0 = free ∨ ∀ l ∈ linksInto L drop i, s.getD l.f.toNat 0 ≤ s.getD i 0 + l.m) ∧
    ∀ σ, Sol L drop σ → ∀ i, i < n → s.getD i 0 = free ∨ (s.getD i 0 ≤ 265712378014859264 ∧ σ i ≤ σ v + s.getD i 0) := by
  have hw := (begin_to n v).wf h1 h2
  refine ⟨(settleGo_finds hok hw ((begin_to n v).rx h2 L drop) h).1, fun σ hσ i hi => ?_⟩
  have h0 : Ab n σ v (settle0 ((unbound n).set v 0)) := by
    have e : ∀ j, j < n → ((unbound n).set v 0).getD j 0 = free ∨ (j = v ∧ ((unbound n).set v 0).getD j 0 = 0) := fun j hj => by
      by_cases e : v = j
      · subst e
        exact .inr ⟨rfl, set_same (by unfold unbound; rw [List.length_replicate]; exact hj)⟩
      · rw [set_other e]
        unfold unbound
        rw [List.getD, List.getElem?_replicate, if_pos hj]
        exact .inl rfl
    refine ⟨fun j hj => ?_, fun j hj => ?_, fun j hj => ?_⟩
    · have h3 := (List.mem_filter.1 hj).2
      rw [bne_iff_ne] at h3
      exact h3
    · rcases e j hj with h3 | ⟨_, h3⟩
      · exact .inl h3
      · have h4 := (hw.cb j hj).1
        refine .inr ?_
        show ((unbound n).set v 0).getD j 0 ≤ _
        rw [h3]
        omega
    · rcases e j hj with h3 | ⟨h3, h4⟩
      · exact .inl h3
      · refine .inr ?_
        show σ j ≤ σ v + ((unbound n).set v 0).getD j 0
        rw [h4, h3]; omega
  obtain ⟨y, hy, ha, rfl⟩ := settleGo_above hok hσ hw h0 h
  rcases ha.ab i hi with h3 | h3
  · exact .inl h3
  · rcases ha.up i hi with h4 | h4
    · exact .inl h4
    · have := (hy.cb i hi).2
      exact .inr ⟨by omega, h3⟩
end Ch
