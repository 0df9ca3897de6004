/- Package chain, mirrored: settle always ends, and gives up on no system that has a solution. -/
import Derived.Test.YtkcchangkhklcaaZ06
set_option linter.unusedSimpArgs false
set_option linter.unusedVariables false
namespace Ch

def high (z : Int) : Nat := (z + 270215977642229760).toNat
def hsum (l : List Int) : Nat := (l.map high).sum
theorem hsum_set : ∀ {l : List Int} {i : Nat} {v : Int}, i < l.length → high v < high (l.getD i 0) → hsum (l.set i v) + 1 ≤ hsum l
  | a :: l, 0, v, _, h => by
    simp only [List.getD_cons_zero] at h
    simp only [hsum, List.set_cons_zero, List.map_cons, List.sum_cons]
    omega
  | a :: l, i + 1, v, h0, h => by
    have h1 : hsum (l.set i v) + 1 ≤ hsum l := hsum_set (by simpa using h0) (by simpa using h)
    simp only [hsum, List.set_cons_succ, List.map_cons, List.sum_cons] at h1 ⊢
    omega
def meas (x : St) : Nat := 2 * hsum x.s + x.q.length

theorem relax_less {n u : Nat} {l : Lk} {x y : St} (h : WF n x) (hl : okLk n l = true) (hr : relax n u l x = some y) (hu : u < n) : meas y ≤ meas x := by
  obtain ⟨f0, f1, _, _, _, m0, _⟩ := okLk_spec hl
  unfold Ch.relax at hr
  split at hr
  · cases hr; exact Nat.le_refl _
  · rename_i h1
    split at hr
    · cases hr
    · have hf : l.f.toNat < n := by omega
      have hlo := h.lo _ hf
      have hcb := h.cb _ hf
      have hn := h.n2
      have hs : hsum (x.s.set l.f.toNat (x.s.getD u 0 + l.m)) + 1 ≤ hsum x.s := hsum_set (by rw [h.s]; exact hf) (by unfold high; omega)
      split at hr
      · cases hr
        simp only [meas]
        omega
      · cases hr
        simp only [meas, List.length_append, List.length_cons, List.length_nil]
        omega
theorem relaxAll_wf {n u : Nat} (hu : u < n) : ∀ {ls : List Lk} {x y : St}, WF n x → (∀ l ∈ ls, okLk n l = true) → relaxAll n u ls x = some y → WF n y ∧ meas y ≤ meas x
  | [], x, y, h, _, hr => by cases hr; exact ⟨h, Nat.le_refl _⟩
  | l :: r, x, y, h, hl, hr => by
    unfold relaxAll at hr
    split at hr
    · cases hr
    · rename_i z hz
      have h1 := hl l List.mem_cons_self
      have h2 := relaxAll_wf hu (h.relax hu h1 hz) (fun k hk => hl k (List.mem_cons_of_mem _ hk)) hr
      have h3 := relax_less h h1 hz hu
      exact ⟨h2.1, by omega⟩
theorem mem_linksInto {L : List Lk} {drop : List Bool} {v : Nat} {l : Lk} (h : l ∈ linksInto L drop v) : ∃ i, i < L.length ∧ l = L.getD i noLk ∧ l.t = (v : Int) := by
  unfold linksInto at h
  obtain ⟨i, hi, rfl⟩ := List.mem_map.1 h
  have h1 := (List.mem_filter.1 hi).1
  unfold into at h1
  obtain ⟨h2, h3⟩ := List.mem_filter.1 h1
  exact ⟨i, List.mem_range.1 h2, rfl, by simpa using h3⟩

/-- settle ends -/
theorem settleGo_ends {n : Nat} {L : List Lk} {drop : List Bool} (hok : ∀ j, j < L.length → okLk n (L.getD j noLk) = true) : ∀ {k : Nat} {x : St}, WF n x → meas x < k → (settleGo n L drop k x).isSome = true
  | 0, x, _, h => absurd h (by omega)
  | k + 1, x, hw, h => by
    unfold settleGo
    split
    · rfl
    · rename_i u q hq
      have hu := (hw.q u (by rw [hq]; exact List.mem_cons_self)).1
      split
      · rfl
      · rename_i y hy
        have h1 := relaxAll_wf hu (hw.take hq) (fun l hl => by
          obtain ⟨i, hi, rfl, _⟩ := mem_linksInto hl
          exact hok i hi) hy
        refine settleGo_ends hok h1.1 ?_
        have h2 := h1.2
        have h3 : meas { x with w := x.w.set u false, q := q } + 1 = meas x := by simp only [meas, hq, List.length_cons]; omega
        omega
/-- more fuel changes nothing -/
theorem settleGo_more {n : Nat} {L : List Lk} {drop : List Bool} : ∀ {k j : Nat} {x : St} {R : Option (List Int)}, settleGo n L drop k x = some R → k ≤ j → settleGo n L drop j x = some R
  | 0, _, x, R, h, _ => by cases h
  | k + 1, 0, x, R, _, hj => absurd hj (by omega)
  | k + 1, j + 1, x, R, h, hj => by
    unfold settleGo at h ⊢
    split at h
    · exact h
    · split at h
      · exact h
      · exact settleGo_more h (by omega)

/-- a solution, as a function of the node -/
def Sol (L : List Lk) (drop : List Bool) (σ : Nat → Int) : Prop := ∀ v, ∀ l ∈ linksInto L drop v, σ l.f.toNat ≤ σ v + l.m
/-- under a solution: each node has a path of as many other nodes as it counts, all of which lie lower -/
def Path (n : Nat) (σ : Nat → Int) (x : St) (v : Nat) (P : List Nat) : Prop := P.Nodup ∧ (P.length : Int) = x.c.getD v 0 + 1 ∧ ∀ p ∈ P, p < n ∧ x.s.getD p 0 - σ p ≤ x.s.getD v 0 - σ v
def Paths (n : Nat) (σ : Nat → Int) (x : St) : Prop := ∀ v, v < n → ∃ P, Path n σ x v P

theorem Paths.low {n u f : Nat} {σ : Nat → Int} {x : St} {m : Int} (hw : WF n x) (h : Paths n σ x) (hu : u < n) (hf : f < n) (hs : σ f ≤ σ u + m) (hlt : x.s.getD u 0 + m < x.s.getD f 0) {w : List Bool} {q : List Nat} :
    Paths n σ ⟨x.s.set f (x.s.getD u 0 + m), w, x.c.set f (x.c.getD u 0 + 1), q⟩ ∧ x.c.getD u 0 + 1 ≠ (n : Int) := by
  obtain ⟨P, hP1, hP2, hP3⟩ := h u hu
  have hfP : f ∉ P := fun hm => by
    have := (hP3 f hm).2
    omega
  have hlen : P.length + 1 ≤ n := by
    have h1 := nodup_len n (f :: P) (List.nodup_cons.2 ⟨hfP, hP1⟩) (fun p hp => by
      rcases List.mem_cons.1 hp with rfl | hp
      · exact hf
      · exact (hP3 p hp).1)
    simpa using h1
  refine ⟨fun v hv => ?_, by omega⟩
  have e1 : (x.s.set f (x.s.getD u 0 + m)).getD f 0 = x.s.getD u 0 + m := set_same (by rw [hw.s]; exact hf)
  have e2 : (x.c.set f (x.c.getD u 0 + 1)).getD f 0 = x.c.getD u 0 + 1 := set_same (by rw [hw.c]; have := hw.n2; omega)
  have e3 : ∀ p, p ≠ f → (x.s.set f (x.s.getD u 0 + m)).getD p 0 = x.s.getD p 0 := fun p hp => set_other (Ne.symm hp)
  have e4 : ∀ p, p ≠ f → (x.c.set f (x.c.getD u 0 + 1)).getD p 0 = x.c.getD p 0 := fun p hp => set_other (Ne.symm hp)
  by_cases hvf : v = f
  · subst hvf
    refine ⟨v :: P, List.nodup_cons.2 ⟨hfP, hP1⟩, ?_, fun p hp => ?_⟩
    · show ((v :: P).length : Int) = (x.c.set v (x.c.getD u 0 + 1)).getD v 0 + 1
      rw [e2, List.length_cons]
      omega
    · show p < n ∧ (x.s.set v (x.s.getD u 0 + m)).getD p 0 - σ p ≤ (x.s.set v (x.s.getD u 0 + m)).getD v 0 - σ v
      rcases List.mem_cons.1 hp with rfl | hp
      · exact ⟨hf, Int.le_refl _⟩
      · have := hP3 p hp
        rw [e1, e3 p (fun e => hfP (e ▸ hp))]
        exact ⟨this.1, by omega⟩
  · obtain ⟨Q, hQ1, hQ2, hQ3⟩ := h v hv
    refine ⟨Q, hQ1, ?_, fun p hp => ?_⟩
    · show (Q.length : Int) = (x.c.set f (x.c.getD u 0 + 1)).getD v 0 + 1
      rw [e4 v hvf]
      exact hQ2
    · show p < n ∧ (x.s.set f (x.s.getD u 0 + m)).getD p 0 - σ p ≤ (x.s.set f (x.s.getD u 0 + m)).getD v 0 - σ v
      have := hQ3 p hp
      rw [e3 v hvf]
      by_cases hpf : p = f
      · subst hpf
        rw [e1]
        exact ⟨this.1, by omega⟩
      · rw [e3 p hpf]
        exact this

theorem relax_path {n u : Nat} {σ : Nat → Int} {l : Lk} {x : St} (hw : WF n x) (h : Paths n σ x) (hu : u < n) (hl : okLk n l = true) (hs : σ l.f.toNat ≤ σ u + l.m) : ∃ y, relax n u l x = some y ∧ Paths n σ y := by
  obtain ⟨f0, f1, _⟩ := okLk_spec hl
  unfold Ch.relax
  by_cases h1 : x.s.getD l.f.toNat 0 ≤ x.s.getD u 0 + l.m
  · rw [if_pos h1]; exact ⟨_, rfl, h⟩
  · rw [if_neg h1]
    have hf : l.f.toNat < n := by omega
    rw [if_neg (Paths.low (w := []) (q := []) hw h hu hf hs (by omega)).2]
    split
    · exact ⟨_, rfl, (Paths.low hw h hu hf hs (by omega)).1⟩
    · exact ⟨_, rfl, (Paths.low hw h hu hf hs (by omega)).1⟩
theorem relaxAll_path {n u : Nat} {σ : Nat → Int} (hu : u < n) : ∀ {ls : List Lk} {x : St}, WF n x → Paths n σ x → (∀ l ∈ ls, okLk n l = true ∧ σ l.f.toNat ≤ σ u + l.m) → ∃ y, relaxAll n u ls x = some y ∧ Paths n σ y
  | [], x, _, h, _ => ⟨x, rfl, h⟩
  | l :: r, x, hw, h, hl => by
    have h1 := hl l List.mem_cons_self
    obtain ⟨y, hy, hp⟩ := relax_path hw h hu h1.1 h1.2
    obtain ⟨z, hz, hq⟩ := relaxAll_path hu (hw.relax hu h1.1 hy) hp (fun k hk => hl k (List.mem_cons_of_mem _ hk))
    refine ⟨z, ?_, hq⟩
    unfold relaxAll
    rw [hy]
    exact hz

/-- on a system that has a solution settle does not give up -/
theorem settleGo_keeps {n : Nat} {L : List Lk} {drop : List Bool} {σ : Nat → Int} (hok : ∀ j, j < L.length → okLk n (L.getD j noLk) = true) (hσ : Sol L drop σ) : ∀ {k : Nat} {x : St}, WF n x → Paths n σ x → settleGo n L drop k x ≠ some none
  | 0, x, _, _ => by intro h; cases h
  | k + 1, x, hw, hp => by
    unfold settleGo
    split
    · intro h; cases h
    · rename_i u q hq
      have hu := (hw.q u (by rw [hq]; exact List.mem_cons_self)).1
      have hls : ∀ l ∈ linksInto L drop u, okLk n l = true ∧ σ l.f.toNat ≤ σ u + l.m := fun l hl => by
        obtain ⟨i, hi, e, _⟩ := mem_linksInto hl
        exact ⟨by rw [e]; exact hok i hi, hσ u l hl⟩
      have hp' : Paths n σ { x with w := x.w.set u false, q := q } := hp
      obtain ⟨y, hy, hpy⟩ := relaxAll_path hu (hw.take hq) hp' hls
      rw [hy]
      exact settleGo_keeps hok hσ (relaxAll_wf hu (hw.take hq) (fun l hl => (hls l hl).1) hy).1 hpy
end Ch
