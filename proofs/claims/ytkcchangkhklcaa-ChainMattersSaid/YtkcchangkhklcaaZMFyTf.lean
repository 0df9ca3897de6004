/- Several texts one behind the other. -/
import Derived.Test.YtkcchangkhklcaaZ06
set_option linter.unusedSimpArgs false
set_option linter.unusedVariables false
/- The specification's table of tightest bounds, its plain side: rounds over a table of known bounds (none: not bounded). -/
namespace Ch

def fyStep (D : Nat → Nat → Option Int) (k u v : Nat) : Option Int :=
  match D u k, D k v with
  | some x, some y => match D u v with
    | some z => some (min z (x + y))
    | none => some (x + y)
  | _, _ => D u v
theorem fy_via {D : Nat → Nat → Option Int} {k u v : Nat} {x y : Int} (h1 : D u k = some x) (h2 : D k v = some y) : ∃ z, fyStep D k u v = some z ∧ z ≤ x + y := by
  unfold fyStep
  rw [h1, h2]
  cases D u v with
  | none => exact ⟨_, rfl, Int.le_refl _⟩
  | some z => exact ⟨_, rfl, Int.min_le_right _ _⟩
theorem fy_old {D : Nat → Nat → Option Int} {k u v : Nat} {z : Int} (h : D u v = some z) : ∃ z', fyStep D k u v = some z' ∧ z' ≤ z := by
  unfold fyStep
  split
  · rw [h]; exact ⟨_, rfl, Int.min_le_left _ _⟩
  · exact ⟨z, h, Int.le_refl _⟩
theorem fy_new {D : Nat → Nat → Option Int} {k u v : Nat} {z : Int} (h : fyStep D k u v = some z) : D u v = some z ∨ ∃ x y, D u k = some x ∧ D k v = some y ∧ z = x + y := by
  unfold fyStep at h
  split at h
  · rename_i x y h1 h2
    split at h
    · rename_i w h3
      by_cases hc : w ≤ x + y
      · rw [Int.min_eq_left hc] at h; exact .inl (h3.trans h)
      · rw [Int.min_eq_right (by omega)] at h; exact .inr ⟨x, y, h1, h2, (Option.some.inj h).symm⟩
    · exact .inr ⟨x, y, h1, h2, (Option.some.inj h).symm⟩
  · exact .inl h

/-- over the first k nodes there is no shorter way -/
def Tri (D : Nat → Nat → Option Int) (k : Nat) : Prop := ∀ j, j < k → ∀ u v x y, D u j = some x → D j v = some y → ∃ z, D u v = some z ∧ z ≤ x + y
theorem Tri.step {D : Nat → Nat → Option Int} {k : Nat} (h : Tri D k) {c : Int} (hc : D k k = some c) (h0 : 0 ≤ c) : Tri (fyStep D k) (k + 1) := by
  have hrow : ∀ v y, fyStep D k k v = some y → ∃ y', D k v = some y' ∧ y' ≤ y := fun v y hy => by
    rcases fy_new hy with h1 | ⟨a, b, h1, h2, rfl⟩
    · exact ⟨y, h1, Int.le_refl _⟩
    · rw [hc] at h1; cases h1; exact ⟨b, h2, by omega⟩
  have hcol : ∀ u x, fyStep D k u k = some x → ∃ x', D u k = some x' ∧ x' ≤ x := fun u x hx => by
    rcases fy_new hx with h1 | ⟨a, b, h1, h2, rfl⟩
    · exact ⟨x, h1, Int.le_refl _⟩
    · rw [hc] at h2; cases h2; exact ⟨a, h1, by omega⟩
  intro j hj u v x y hx hy
  by_cases e : j = k
  · subst e
    obtain ⟨x', hx', hxl⟩ := hcol u x hx
    obtain ⟨y', hy', hyl⟩ := hrow v y hy
    obtain ⟨z, hz, hzl⟩ := fy_via hx' hy'
    exact ⟨z, hz, by omega⟩
  · have hj' : j < k := by omega
    rcases fy_new hx with h1 | ⟨a, b, h1, h2, rfl⟩
    · rcases fy_new hy with h3 | ⟨a', b', h3, h4, rfl⟩
      · obtain ⟨z, hz, hzl⟩ := h j hj' u v x y h1 h3
        obtain ⟨z', hz', hzl'⟩ := fy_old (k := k) hz
        exact ⟨z', hz', by omega⟩
      · obtain ⟨z, hz, hzl⟩ := h j hj' u k x a' h1 h3
        obtain ⟨z', hz', hzl'⟩ := fy_via hz h4
        exact ⟨z', hz', by omega⟩
    · rcases fy_new hy with h3 | ⟨a', b', h3, h4, rfl⟩
      · obtain ⟨z, hz, hzl⟩ := h j hj' k v b y h2 h3
        obtain ⟨z', hz', hzl'⟩ := fy_via h1 hz
        exact ⟨z', hz', by omega⟩
      · obtain ⟨z, hz, hzl⟩ := h j hj' k k b a' h2 h3
        rw [hc] at hz; cases hz
        obtain ⟨z', hz', hzl'⟩ := fy_via h1 h4
        exact ⟨z', hz', by omega⟩

/-- no solution goes above a bound of the table -/
def Snd (D : Nat → Nat → Option Int) (ξ : Nat → Int) : Prop := ∀ u v z, D u v = some z → ξ v ≤ ξ u + z
theorem Snd.step {D : Nat → Nat → Option Int} {ξ : Nat → Int} (h : Snd D ξ) (k : Nat) : Snd (fyStep D k) ξ := fun u v z hz => by
  rcases fy_new hz with h1 | ⟨x, y, h1, h2, rfl⟩
  · exact h u v z h1
  · have := h u k x h1
    have := h k v y h2
    omega

/-- the least of a column -/
theorem col_least (D : Nat → Nat → Option Int) (v : Nat) : ∀ n, (∃ u, u < n ∧ (D u v).isSome = true) → ∃ u a, u < n ∧ D u v = some a ∧ ∀ u' b, u' < n → D u' v = some b → a ≤ b
  | 0, ⟨u, hu, _⟩ => absurd hu (by omega)
  | n + 1, ⟨u, hu, hs⟩ => by
    by_cases hex : ∃ u, u < n ∧ (D u v).isSome = true
    · obtain ⟨w, a, hw, ha, hmin⟩ := col_least D v n hex
      cases hn : D n v with
      | none =>
        refine ⟨w, a, by omega, ha, fun u' b hu' hb => ?_⟩
        by_cases e : u' = n
        · subst e; rw [hn] at hb; cases hb
        · exact hmin u' b (by omega) hb
      | some c =>
        by_cases hca : c ≤ a
        · refine ⟨n, c, by omega, hn, fun u' b hu' hb => ?_⟩
          by_cases e : u' = n
          · subst e; rw [hn] at hb; cases hb; exact Int.le_refl _
          · have := hmin u' b (by omega) hb; omega
        · refine ⟨w, a, by omega, ha, fun u' b hu' hb => ?_⟩
          by_cases e : u' = n
          · subst e; rw [hn] at hb; cases hb; omega
          · exact hmin u' b (by omega) hb
    · have e : u = n := by
        by_cases e : u < n
        · exact absurd ⟨u, e, hs⟩ hex
        · omega
      subst e
      obtain ⟨a, ha⟩ := Option.isSome_iff_exists.1 hs
      refine ⟨u, a, by omega, ha, fun u' b hu' hb => ?_⟩
      by_cases e : u' = u
      · subst e; rw [ha] at hb; cases hb; exact Int.le_refl _
      · exact absurd ⟨u', by omega, by rw [hb]; rfl⟩ hex
/-- a table without shorter ways has a solution -/
theorem fy_sol {D : Nat → Nat → Option Int} {n : Nat} (h : Tri D n) (hd : ∀ u, u < n → (D u u).isSome = true) : ∃ ξ : Nat → Int, ∀ f t z, f < n → t < n → D f t = some z → ξ t ≤ ξ f + z := by
  have hex : ∀ v, ∃ a : Int, v < n → ∃ u, u < n ∧ D u v = some a ∧ ∀ u' b, u' < n → D u' v = some b → a ≤ b := fun v => by
    by_cases hv : v < n
    · obtain ⟨u, a, h1, h2, h3⟩ := col_least D v n ⟨v, hv, hd v hv⟩
      exact ⟨a, fun _ => ⟨u, h1, h2, h3⟩⟩
    · exact ⟨0, fun e => absurd e hv⟩
  refine ⟨fun v => (hex v).choose, fun f t z hf ht hz => ?_⟩
  obtain ⟨u, hu, h1, _⟩ := (hex f).choose_spec hf
  obtain ⟨_, _, _, h3⟩ := (hex t).choose_spec ht
  obtain ⟨w, hw, hwl⟩ := h f hf u t _ _ h1 hz
  exact Int.le_trans (h3 u w hu hw) hwl
end Ch

/- Package chain, mirrored: settle always ends, and gives up on no system that has a solution. -/
namespace Ch

def high (z : Int) : Nat := (z + 270215977642229760).toNat
def hsum (l : List Int) : Nat := (l.map high).sum
theorem hsum_set : ∀ {l : List Int} {i : Nat} {v : Int}, i < l.length → high v < high (l.getD i 0) → hsum (l.set i v) + 1 ≤ hsum l
  | a :: l, 0, v, _, h => by
    simp only [List.getD_cons_zero] at h
    simp only [hsum, List.set_cons_zero, List.map_cons, List.sum_cons]
    omega
  | a :: l, i + 1, v, h0, h => by
    have h1 : hsum (l.set i v) + 1 ≤ hsum l := hsum_set (by simpa using h0) (by simpa using h)
    simp only [hsum, List.set_cons_succ, List.map_cons, List.sum_cons] at h1 ⊢
    omega
def meas (x : St) : Nat := 2 * hsum x.s + x.q.length

theorem relax_less {n u : Nat} {l : Lk} {x y : St} (h : WF n x) (hl : okLk n l = true) (hr : relax n u l x = some y) (hu : u < n) : meas y ≤ meas x := by
  obtain ⟨f0, f1, _, _, _, m0, _⟩ := okLk_spec hl
  unfold Ch.relax at hr
  split at hr
  · cases hr; exact Nat.le_refl _
  · rename_i h1
    split at hr
    · cases hr
    · have hf : l.f.toNat < n := by omega
      have hlo := h.lo _ hf
      have hcb := h.cb _ hf
      have hn := h.n2
      have hs : hsum (x.s.set l.f.toNat (x.s.getD u 0 + l.m)) + 1 ≤ hsum x.s := hsum_set (by rw [h.s]; exact hf) (by unfold high; omega)
      split at hr
      · cases hr
        simp only [meas]
        omega
      · cases hr
        simp only [meas, List.length_append, List.length_cons, List.length_nil]
        omega
theorem relaxAll_wf {n u : Nat} (hu : u < n) : ∀ {ls : List Lk} {x y : St}, WF n x → (∀ l ∈ ls, okLk n l = true) → relaxAll n u ls x = some y → WF n y ∧ meas y ≤ meas x
  | [], x, y, h, _, hr => by cases hr; exact ⟨h, Nat.le_refl _⟩
  | l :: r, x, y, h, hl, hr => by
    unfold relaxAll at hr
    split at hr
    · cases hr
    · rename_i z hz
      have h1 := hl l List.mem_cons_self
      have h2 := relaxAll_wf hu (h.relax hu h1 hz) (fun k hk => hl k (List.mem_cons_of_mem _ hk)) hr
      have h3 := relax_less h h1 hz hu
      exact ⟨h2.1, by omega⟩
theorem mem_linksInto {L : List Lk} {drop : List Bool} {v : Nat} {l : Lk} (h : l ∈ linksInto L drop v) : ∃ i, i < L.length ∧ l = L.getD i noLk ∧ l.t = (v : Int) := by
  unfold linksInto at h
  obtain ⟨i, hi, rfl⟩ := List.mem_map.1 h
  have h1 := (List.mem_filter.1 hi).1
  unfold into at h1
  obtain ⟨h2, h3⟩ := List.mem_filter.1 h1
  exact ⟨i, List.mem_range.1 h2, rfl, by simpa using h3⟩

/-- settle ends -/
theorem settleGo_ends {n : Nat} {L : List Lk} {drop : List Bool} (hok : ∀ j, j < L.length → okLk n (L.getD j noLk) = true) : ∀ {k : Nat} {x : St}, WF n x → meas x < k → (settleGo n L drop k x).isSome = true
  | 0, x, _, h => absurd h (by omega)
  | k + 1, x, hw, h => by
    unfold settleGo
    split
    · rfl
    · rename_i u q hq
      have hu := (hw.q u (by rw [hq]; exact List.mem_cons_self)).1
      split
      · rfl
      · rename_i y hy
        have h1 := relaxAll_wf hu (hw.take hq) (fun l hl => by
          obtain ⟨i, hi, rfl, _⟩ := mem_linksInto hl
          exact hok i hi) hy
        refine settleGo_ends hok h1.1 ?_
        have h2 := h1.2
        have h3 : meas { x with w := x.w.set u false, q := q } + 1 = meas x := by simp only [meas, hq, List.length_cons]; omega
        omega
/-- more fuel changes nothing -/
theorem settleGo_more {n : Nat} {L : List Lk} {drop : List Bool} : ∀ {k j : Nat} {x : St} {R : Option (List Int)}, settleGo n L drop k x = some R → k ≤ j → settleGo n L drop j x = some R
  | 0, _, x, R, h, _ => by cases h
  | k + 1, 0, x, R, _, hj => absurd hj (by omega)
  | k + 1, j + 1, x, R, h, hj => by
    unfold settleGo at h ⊢
    split at h
    · exact h
    · split at h
      · exact h
      · exact settleGo_more h (by omega)

/-- a solution, as a function of the node -/
def Sol (L : List Lk) (drop : List Bool) (σ : Nat → Int) : Prop := ∀ v, ∀ l ∈ linksInto L drop v, σ l.f.toNat ≤ σ v + l.m
/-- under a solution: each node has a path of as many other nodes as it counts, all of which lie lower -/
def Path (n : Nat) (σ : Nat → Int) (x : St) (v : Nat) (P : List Nat) : Prop := P.Nodup ∧ (P.length : Int) = x.c.getD v 0 + 1 ∧ ∀ p ∈ P, p < n ∧ x.s.getD p 0 - σ p ≤ x.s.getD v 0 - σ v
def Paths (n : Nat) (σ : Nat → Int) (x : St) : Prop := ∀ v, v < n → ∃ P, Path n σ x v P

theorem Paths.low {n u f : Nat} {σ : Nat → Int} {x : St} {m : Int} (hw : WF n x) (h : Paths n σ x) (hu : u < n) (hf : f < n) (hs : σ f ≤ σ u + m) (hlt : x.s.getD u 0 + m < x.s.getD f 0) {w : List Bool} {q : List Nat} :
    Paths n σ ⟨x.s.set f (x.s.getD u 0 + m), w, x.c.set f (x.c.getD u 0 + 1), q⟩ ∧ x.c.getD u 0 + 1 ≠ (n : Int) := by
  obtain ⟨P, hP1, hP2, hP3⟩ := h u hu
  have hfP : f ∉ P := fun hm => by
    have := (hP3 f hm).2
    omega
  have hlen : P.length + 1 ≤ n := by
    have h1 := nodup_len n (f :: P) (List.nodup_cons.2 ⟨hfP, hP1⟩) (fun p hp => by
      rcases List.mem_cons.1 hp with rfl | hp
      · exact hf
      · exact (hP3 p hp).1)
    simpa using h1
  refine ⟨fun v hv => ?_, by omega⟩
  have e1 : (x.s.set f (x.s.getD u 0 + m)).getD f 0 = x.s.getD u 0 + m := set_same (by rw [hw.s]; exact hf)
  have e2 : (x.c.set f (x.c.getD u 0 + 1)).getD f 0 = x.c.getD u 0 + 1 := set_same (by rw [hw.c]; have := hw.n2; omega)
  have e3 : ∀ p, p ≠ f → (x.s.set f (x.s.getD u 0 + m)).getD p 0 = x.s.getD p 0 := fun p hp => set_other (Ne.symm hp)
  have e4 : ∀ p, p ≠ f → (x.c.set f (x.c.getD u 0 + 1)).getD p 0 = x.c.getD p 0 := fun p hp => set_other (Ne.symm hp)
  by_cases hvf : v = f
  · subst hvf
    refine ⟨v :: P, List.nodup_cons.2 ⟨hfP, hP1⟩, ?_, fun p hp => ?_⟩
    · show ((v :: P).length : Int) = (x.c.set v (x.c.getD u 0 + 1)).getD v 0 + 1
      rw [e2, List.length_cons]
      omega
    · show p < n ∧ (x.s.set v (x.s.getD u 0 + m)).getD p 0 - σ p ≤ (x.s.set v (x.s.getD u 0 + m)).getD v 0 - σ v
      rcases List.mem_cons.1 hp with rfl | hp
      · exact ⟨hf, Int.le_refl _⟩
      · have := hP3 p hp
        rw [e1, e3 p (fun e => hfP (e ▸ hp))]
        exact ⟨this.1, by omega⟩
  · obtain ⟨Q, hQ1, hQ2, hQ3⟩ := h v hv
    refine ⟨Q, hQ1, ?_, fun p hp => ?_⟩
    · show (Q.length : Int) = (x.c.set f (x.c.getD u 0 + 1)).getD v 0 + 1
      rw [e4 v hvf]
      exact hQ2
    · show p < n ∧ (x.s.set f (x.s.getD u 0 + m)).getD p 0 - σ p ≤ (x.s.set f (x.s.getD u 0 + m)).getD v 0 - σ v
      have := hQ3 p hp
      rw [e3 v hvf]
      by_cases hpf : p = f
      · subst hpf
        rw [e1]
        exact ⟨this.1, by omega⟩
      · rw [e3 p hpf]
        exact this

theorem relax_path {n u : Nat} {σ : Nat → Int} {l : Lk} {x : St} (hw : WF n x) (h : Paths n σ x) (hu : u < n) (hl : okLk n l = true) (hs : σ l.f.toNat ≤ σ u + l.m) : ∃ y, relax n u l x = some y ∧ Paths n σ y := by
  obtain ⟨f0, f1, _⟩ := okLk_spec hl
  unfold Ch.relax
  by_cases h1 : x.s.getD l.f.toNat 0 ≤ x.s.getD u 0 + l.m
  · rw [if_pos h1]; exact ⟨_, rfl, h⟩
  · rw [if_neg h1]
    have hf : l.f.toNat < n := by omega
    rw [if_neg (Paths.low (w := []) (q := []) hw h hu hf hs (by omega)).2]
    split
    · exact ⟨_, rfl, (Paths.low hw h hu hf hs (by omega)).1⟩
    · exact ⟨_, rfl, (Paths.low hw h hu hf hs (by omega)).1⟩
theorem relaxAll_path {n u : Nat} {σ : Nat → Int} (hu : u < n) : ∀ {ls : List Lk} {x : St}, WF n x → Paths n σ x → (∀ l ∈ ls, okLk n l = true ∧ σ l.f.toNat ≤ σ u + l.m) → ∃ y, relaxAll n u ls x = some y ∧ Paths n σ y
  | [], x, _, h, _ => ⟨x, rfl, h⟩
  | l :: r, x, hw, h, hl => by
    have h1 := hl l List.mem_cons_self
    obtain ⟨y, hy, hp⟩ := relax_path hw h hu h1.1 h1.2
    obtain ⟨z, hz, hq⟩ := relaxAll_path hu (hw.relax hu h1.1 hy) hp (fun k hk => hl k (List.mem_cons_of_mem _ hk))
    refine ⟨z, ?_, hq⟩
    unfold relaxAll
    rw [hy]
    exact hz

/-- on a system that has a solution settle does not give up -/
theorem settleGo_keeps {n : Nat} {L : List Lk} {drop : List Bool} {σ : Nat → Int} (hok : ∀ j, j < L.length → okLk n (L.getD j noLk) = true) (hσ : Sol L drop σ) : ∀ {k : Nat} {x : St}, WF n x → Paths n σ x → settleGo n L drop k x ≠ some none
  | 0, x, _, _ => by intro h; cases h
  | k + 1, x, hw, hp => by
    unfold settleGo
    split
    · intro h; cases h
    · rename_i u q hq
      have hu := (hw.q u (by rw [hq]; exact List.mem_cons_self)).1
      have hls : ∀ l ∈ linksInto L drop u, okLk n l = true ∧ σ l.f.toNat ≤ σ u + l.m := fun l hl => by
        obtain ⟨i, hi, e, _⟩ := mem_linksInto hl
        exact ⟨by rw [e]; exact hok i hi, hσ u l hl⟩
      have hp' : Paths n σ { x with w := x.w.set u false, q := q } := hp
      obtain ⟨y, hy, hpy⟩ := relaxAll_path hu (hw.take hq) hp' hls
      rw [hy]
      exact settleGo_keeps hok hσ (relaxAll_wf hu (hw.take hq) (fun l hl => (hls l hl).1) hy).1 hpy
end Ch

/- Package chain, mirrored: what settle finds is a solution. -/
namespace Ch

/-- each node waits, is not reached, or keeps its links -/
structure Rx (n : Nat) (L : List Lk) (drop : List Bool) (x : St) : Prop where
  wq : ∀ v, v < n → x.w.getD v false = true → v ∈ x.q
  ok : ∀ v, v < n → v ∈ x.q ∨ x.s.getD v 0 = free ∨ ∀ l ∈ linksInto L drop v, x.s.getD l.f.toNat 0 ≤ x.s.getD v 0 + l.m
/-- the same while the links of u are looked at, of which ds are done -/
structure Ru (n : Nat) (L : List Lk) (drop : List Bool) (u : Nat) (ds : List Lk) (x : St) : Prop where
  wq : ∀ v, v < n → x.w.getD v false = true → v ∈ x.q
  ok : ∀ v, v < n → v ≠ u → v ∈ x.q ∨ x.s.getD v 0 = free ∨ ∀ l ∈ linksInto L drop v, x.s.getD l.f.toNat 0 ≤ x.s.getD v 0 + l.m
  du : ∀ l ∈ ds, x.s.getD l.f.toNat 0 ≤ x.s.getD u 0 + l.m

theorem Ru.relax {n u : Nat} {L : List Lk} {drop : List Bool} {ds : List Lk} {l : Lk} {x y : St} (hw : WF n x) (h : Ru n L drop u ds x) (hl : okLk n l = true) (hlu : l.f.toNat ≠ u) (hr : relax n u l x = some y) : Ru n L drop u (ds ++ [l]) y ∧ ∀ v, v < n → y.s.getD v 0 ≤ x.s.getD v 0 := by
  obtain ⟨f0, f1, _, _, _, m0, _⟩ := okLk_spec hl
  have hf : l.f.toNat < n := by omega
  unfold Ch.relax at hr
  split at hr
  · rename_i h1
    cases hr
    refine ⟨⟨h.wq, h.ok, fun k hk => ?_⟩, fun v _ => Int.le_refl _⟩
    rcases List.mem_append.1 hk with hk | hk
    · exact h.du k hk
    · rw [List.mem_singleton.1 hk]; exact h1
  · rename_i h1
    split at hr
    · cases hr
    · have e1 : (x.s.set l.f.toNat (x.s.getD u 0 + l.m)).getD l.f.toNat 0 = x.s.getD u 0 + l.m := set_same (by rw [hw.s]; exact hf)
      have e2 : ∀ p, p ≠ l.f.toNat → (x.s.set l.f.toNat (x.s.getD u 0 + l.m)).getD p 0 = x.s.getD p 0 := fun p hp => set_other (Ne.symm hp)
      have e3 : ∀ p, (x.s.set l.f.toNat (x.s.getD u 0 + l.m)).getD p 0 ≤ x.s.getD p 0 := fun p => by
        by_cases hp : p = l.f.toNat
        · rw [hp, e1]; omega
        · rw [e2 p hp]; exact Int.le_refl _
      have e4 := e2 u (Ne.symm hlu)
      have hd : ∀ k ∈ ds ++ [l], (x.s.set l.f.toNat (x.s.getD u 0 + l.m)).getD k.f.toNat 0 ≤ (x.s.set l.f.toNat (x.s.getD u 0 + l.m)).getD u 0 + k.m := fun k hk => by
        rw [e4]
        rcases List.mem_append.1 hk with hk | hk
        · have := h.du k hk
          have := e3 k.f.toNat
          omega
        · rw [List.mem_singleton.1 hk, e1]; exact Int.le_refl _
      have hk2 : ∀ v, v ≠ l.f.toNat → (x.s.getD v 0 = free ∨ ∀ k ∈ linksInto L drop v, x.s.getD k.f.toNat 0 ≤ x.s.getD v 0 + k.m) → ((x.s.set l.f.toNat (x.s.getD u 0 + l.m)).getD v 0 = free ∨ ∀ k ∈ linksInto L drop v, (x.s.set l.f.toNat (x.s.getD u 0 + l.m)).getD k.f.toNat 0 ≤ (x.s.set l.f.toNat (x.s.getD u 0 + l.m)).getD v 0 + k.m) := fun v hv hh => by
        rw [e2 v hv]
        refine hh.imp id (fun hh k hk => ?_)
        have := hh k hk
        have := e3 k.f.toNat
        omega
      split at hr
      · rename_i hwf
        cases hr
        refine ⟨⟨h.wq, fun v hv hvu => ?_, hd⟩, fun v _ => e3 v⟩
        by_cases hvf : v = l.f.toNat
        · exact .inl (h.wq v hv (by rw [hvf]; exact hwf))
        · exact (h.ok v hv hvu).imp id (hk2 v hvf)
      · rename_i hwf
        cases hr
        refine ⟨⟨fun v hv hvw => ?_, fun v hv hvu => ?_, hd⟩, fun v _ => e3 v⟩
        · show v ∈ x.q ++ [l.f.toNat]
          by_cases hvf : v = l.f.toNat
          · exact List.mem_append.2 (.inr (List.mem_singleton.2 hvf))
          · refine List.mem_append.2 (.inl (h.wq v hv ?_))
            have e5 : (x.w.set l.f.toNat true).getD v false = x.w.getD v false := set_other (Ne.symm hvf)
            rw [← e5]
            exact hvw
        · show v ∈ x.q ++ [l.f.toNat] ∨ _
          by_cases hvf : v = l.f.toNat
          · exact .inl (List.mem_append.2 (.inr (List.mem_singleton.2 hvf)))
          · rcases h.ok v hv hvu with h9 | h9
            · exact .inl (List.mem_append.2 (.inl h9))
            · exact .inr (hk2 v hvf h9)
theorem Ru.relaxAll {n u : Nat} {L : List Lk} {drop : List Bool} (hu : u < n) : ∀ {ls ds : List Lk} {x y : St}, WF n x → Ru n L drop u ds x → (∀ l ∈ ls, okLk n l = true ∧ l.f.toNat ≠ u) → Ch.relaxAll n u ls x = some y → Ru n L drop u (ds ++ ls) y ∧ ∀ v, v < n → y.s.getD v 0 ≤ x.s.getD v 0
  | [], ds, x, y, _, h, _, hr => by cases hr; rw [List.append_nil]; exact ⟨h, fun _ _ => Int.le_refl _⟩
  | l :: r, ds, x, y, hw, h, hl, hr => by
    unfold Ch.relaxAll at hr
    split at hr
    · cases hr
    · rename_i z hz
      have h1 := hl l List.mem_cons_self
      have h2 := h.relax hw h1.1 h1.2 hz
      have h3 := Ru.relaxAll hu (hw.relax hu h1.1 hz) h2.1 (fun k hk => hl k (List.mem_cons_of_mem _ hk)) hr
      rw [List.append_assoc] at h3
      exact ⟨h3.1, fun v hv => Int.le_trans (h3.2 v hv) (h2.2 v hv)⟩

/-- what settle finds: every node is not reached or keeps its links, and no sum grew -/
theorem settleGo_finds {n : Nat} {L : List Lk} {drop : List Bool} (hok : ∀ j, j < L.length → okLk n (L.getD j noLk) = true) : ∀ {k : Nat} {x : St} {s : List Int}, WF n x → Rx n L drop x → settleGo n L drop k x = some (some s) →
    (∀ v, v < n → s.getD v 0 = free ∨ ∀ l ∈ linksInto L drop v, s.getD l.f.toNat 0 ≤ s.getD v 0 + l.m) ∧ (∀ v, v < n → s.getD v 0 ≤ x.s.getD v 0) ∧ s.length = n
  | 0, x, s, _, _, h => by cases h
  | k + 1, x, s, hw, hx, h => by
    unfold settleGo at h
    split at h
    · rename_i hq
      cases h
      refine ⟨fun v hv => ?_, fun v _ => Int.le_refl _, hw.s⟩
      rcases hx.ok v hv with h9 | h9
      · rw [hq] at h9; cases h9
      · exact h9
    · rename_i u q hq
      have hu := (hw.q u (by rw [hq]; exact List.mem_cons_self)).1
      split at h
      · cases h
      · rename_i y hy
        have hls : ∀ l ∈ linksInto L drop u, okLk n l = true ∧ l.f.toNat ≠ u := fun l hl => by
          obtain ⟨i, hi, e, ht⟩ := mem_linksInto hl
          have h1 := hok i hi
          rw [← e] at h1
          obtain ⟨f0, _, _, _, hne, _⟩ := okLk_spec h1
          exact ⟨h1, fun e2 => hne (by omega)⟩
        have hnd := hw.nd
        rw [hq] at hnd
        have hnu := (List.nodup_cons.1 hnd).1
        have h0 : Ru n L drop u [] { x with w := x.w.set u false, q := q } := by
          refine ⟨fun v hv hvw => ?_, fun v hv hvu => ?_, fun l hl => by cases hl⟩
          · have hvw' : (x.w.set u false).getD v false = true := hvw
            by_cases e : v = u
            · subst e
              rw [set_same (by rw [hw.w]; have := hw.n2; omega)] at hvw'
              cases hvw'
            · rw [set_other (Ne.symm e)] at hvw'
              have := hx.wq v hv hvw'
              rw [hq] at this
              rcases List.mem_cons.1 this with h9 | h9
              · exact absurd h9 e
              · exact h9
          · rcases hx.ok v hv with h9 | h9
            · rw [hq] at h9
              rcases List.mem_cons.1 h9 with h9 | h9
              · exact absurd h9 hvu
              · exact .inl h9
            · exact .inr h9
        have h2 := Ru.relaxAll hu (hw.take hq) h0 hls hy
        have h3 := settleGo_finds hok (relaxAll_wf hu (hw.take hq) (fun l hl => (hls l hl).1) hy).1 (⟨h2.1.wq, fun v hv => by
          by_cases e : v = u
          · subst e; exact .inr (.inr (fun l hl => h2.1.du l hl))
          · exact h2.1.ok v hv e⟩) h
        exact ⟨h3.1, fun v hv => Int.le_trans (h3.2.1 v hv) (h2.2 v hv), h3.2.2⟩
end Ch
