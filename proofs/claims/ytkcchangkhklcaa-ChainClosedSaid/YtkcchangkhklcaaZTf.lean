/- Package chain, mirrored: what settle finds is a solution. -/
import Derived.Test.YtkcchangkhklcaaZTe
set_option linter.unusedSimpArgs false
set_option linter.unusedVariables false
namespace Ch

/-- each node waits, is not reached, or keeps its links -/
structure Rx (n : Nat) (L : List Lk) (drop : List Bool) (x : St) : Prop where
  wq : ∀ v, v < n → x.w.getD v false = true → v ∈ x.q
  ok : ∀ v, v < n → v ∈ x.q ∨ x.s.getD v 0 = free ∨ ∀ l ∈ linksInto L drop v, x.s.getD l.f.toNat 0 ≤ x.s.getD v 0 + l.m
/-- the same while the links of u are looked at, of which ds are done -/
structure Ru (n : Nat) (L : List Lk) (drop : List Bool) (u : Nat) (ds : List Lk) (x : St) : Prop where
  wq : ∀ v, v < n → x.w.getD v false = true → v ∈ x.q
  ok : ∀ v, v < n → v ≠ u → v ∈ x.q ∨ x.s.getD v 0 = free ∨ ∀ l ∈ linksInto L drop v, x.s.getD l.f.toNat 0 ≤ x.s.getD v 0 + l.m
  du : ∀ l ∈ ds, x.s.getD l.f.toNat 0 ≤ x.s.getD u 0 + l.m

theorem Ru.relax {n u : Nat} {L : List Lk} {drop : List Bool} {ds : List Lk} {l : Lk} {x y : St} (hw : WF n x) (h : Ru n L drop u ds x) (hl : okLk n l = true) (hlu : l.f.toNat ≠ u) (hr : relax n u l x = some y) : Ru n L drop u (ds ++ [l]) y ∧ ∀ v, v < n → y.s.getD v 0 ≤ x.s.getD v 0 := by
  obtain ⟨f0, f1, _, _, _, m0, _⟩ := okLk_spec hl
  have hf : l.f.toNat < n := by omega
  unfold Ch.relax at hr
  split at hr
  · rename_i h1
    cases hr
    refine ⟨⟨h.wq, h.ok, fun k hk => ?_⟩, fun v _ => Int.le_refl _⟩
    rcases List.mem_append.1 hk with hk | hk
    · exact h.du k hk
    · rw [List.mem_singleton.1 hk]; exact h1
  · rename_i h1
    split at hr
    · cases hr
    · have e1 : (x.s.set l.f.toNat (x.s.getD u 0 + l.m)).getD l.f.toNat 0 = x.s.getD u 0 + l.m := set_same (by rw [hw.s]; exact hf)
      have e2 : ∀ p, p ≠ l.f.toNat → (x.s.set l.f.toNat (x.s.getD u 0 + l.m)).getD p 0 = x.s.getD p 0 := fun p hp => set_other (Ne.symm hp)
      have e3 : ∀ p, (x.s.set l.f.toNat (x.s.getD u 0 + l.m)).getD p 0 ≤ x.s.getD p 0 := fun p => by
        by_cases hp : p = l.f.toNat
        · rw [hp, e1]; omega
        · rw [e2 p hp]; exact Int.le_refl _
      have e4 := e2 u (Ne.symm hlu)
      have hd : ∀ k ∈ ds ++ [l], (x.s.set l.f.toNat (x.s.getD u 0 + l.m)).getD k.f.toNat 0 ≤ (x.s.set l.f.toNat (x.s.getD u 0 + l.m)).getD u 0 + k.m := fun k hk => by
        rw [e4]
        rcases List.mem_append.1 hk with hk | hk
        · have := h.du k hk
          have := e3 k.f.toNat
          omega
        · rw [List.mem_singleton.1 hk, e1]; exact Int.le_refl _
      have hk2 : ∀ v, v ≠ l.f.toNat → (x.s.getD v 0 = free ∨ ∀ k ∈ linksInto L drop v, x.s.getD k.f.toNat 0 ≤ x.s.getD v 0 + k.m) → ((x.s.set l.f.toNat (x.s.getD u 0 + l.m)).getD v 0 = free ∨ ∀ k ∈ linksInto L drop v, (x.s.set l.f.toNat (x.s.getD u 0 + l.m)).getD k.f.toNat 0 ≤ (x.s.set l.f.toNat (x.s.getD u 0 + l.m)).getD v 0 + k.m) := fun v hv hh => by
        rw [e2 v hv]
        refine hh.imp id (fun hh k hk => ?_)
        have := hh k hk
        have := e3 k.f.toNat
        omega
      split at hr
      · rename_i hwf
        cases hr
        refine ⟨⟨h.wq, fun v hv hvu => ?_, hd⟩, fun v _ => e3 v⟩
        by_cases hvf : v = l.f.toNat
        · exact .inl (h.wq v hv (by rw [hvf]; exact hwf))
        · exact (h.ok v hv hvu).imp id (hk2 v hvf)
      · rename_i hwf
        cases hr
        refine ⟨⟨fun v hv hvw => ?_, fun v hv hvu => ?_, hd⟩, fun v _ => e3 v⟩
        · show v ∈ x.q ++ [l.f.toNat]
          by_cases hvf : v = l.f.toNat
          · exact List.mem_append.2 (.inr (List.mem_singleton.2 hvf))
          · refine List.mem_append.2 (.inl (h.wq v hv ?_))
            have e5 : (x.w.set l.f.toNat true).getD v false = x.w.getD v false := set_other (Ne.symm hvf)
            rw [← e5]
            exact hvw
        · show v ∈ x.q ++ [l.f.toNat] ∨ _
          by_cases hvf : v = l.f.toNat
          · exact .inl (List.mem_append.2 (.inr (List.mem_singleton.2 hvf)))
          · rcases h.ok v hv hvu with h9 | h9
            · exact .inl (List.mem_append.2 (.inl h9))
            · exact .inr (hk2 v hvf h9)
theorem Ru.relaxAll {n u : Nat} {L : List Lk} {drop : List Bool} (hu : u < n) : ∀ {ls ds : List Lk} {x y : St}, WF n x → Ru n L drop u ds x → (∀ l ∈ ls, okLk n l = true ∧ l.f.toNat ≠ u) → Ch.relaxAll n u ls x = some y → Ru n L drop u (ds ++ ls) y ∧ ∀ v, v < n → y.s.getD v 0 ≤ x.s.getD v 0
  | [], ds, x, y, _, h, _, hr => by cases hr; rw [List.append_nil]; exact ⟨h, fun _ _ => Int.le_refl _⟩
  | l :: r, ds, x, y, hw, h, hl, hr => by
    unfold Ch.relaxAll at hr
    split at hr
    · cases hr
    · rename_i z hz
      have h1 := hl l List.mem_cons_self
      have h2 := h.relax hw h1.1 h1.2 hz
      have h3 := Ru.relaxAll hu (hw.relax hu h1.1 hz) h2.1 (fun k hk => hl k (List.mem_cons_of_mem _ hk)) hr
      rw [List.append_assoc] at h3
      exact ⟨h3.1, fun v hv => Int.le_trans (h3.2 v hv) (h2.2 v hv)⟩

/-- what settle finds: every node is not reached or keeps its links, and no sum grew -/
theorem settleGo_finds {n : Nat} {L : List Lk} {drop : List Bool} (hok : ∀ j, j < L.length → okLk n (L.getD j noLk) = true) : ∀ {k : Nat} {x : St} {s : List Int}, WF n x → Rx n L drop x → settleGo n L drop k x = some (some s) →
    (∀ v, v < n → s.getD v 0 = free ∨ ∀ l ∈ linksInto L drop v, s.getD l.f.toNat 0 ≤ s.getD v 0 + l.m) ∧ (∀ v, v < n → s.getD v 0 ≤ x.s.getD v 0) ∧ s.length = n
  | 0, x, s, _, _, h => by cases h
  | k + 1, x, s, hw, hx, h => by
    unfold settleGo at h
    split at h
    · rename_i hq
      cases h
      refine ⟨fun v hv => ?_, fun v _ => Int.le_refl _, hw.s⟩
      rcases hx.ok v hv with h9 | h9
      · rw [hq] at h9; cases h9
      · exact h9
    · rename_i u q hq
      have hu := (hw.q u (by rw [hq]; exact List.mem_cons_self)).1
      split at h
      · cases h
      · rename_i y hy
        have hls : ∀ l ∈ linksInto L drop u, okLk n l = true ∧ l.f.toNat ≠ u := fun l hl => by
          obtain ⟨i, hi, e, ht⟩ := mem_linksInto hl
          have h1 := hok i hi
          rw [← e] at h1
          obtain ⟨f0, _, _, _, hne, _⟩ := okLk_spec h1
          exact ⟨h1, fun e2 => hne (by omega)⟩
        have hnd := hw.nd
        rw [hq] at hnd
        have hnu := (List.nodup_cons.1 hnd).1
        have h0 : Ru n L drop u [] { x with w := x.w.set u false, q := q } := by
          refine ⟨fun v hv hvw => ?_, fun v hv hvu => ?_, fun l hl => by cases hl⟩
          · have hvw' : (x.w.set u false).getD v false = true := hvw
            by_cases e : v = u
            · subst e
              rw [set_same (by rw [hw.w]; have := hw.n2; omega)] at hvw'
              cases hvw'
            · rw [set_other (Ne.symm e)] at hvw'
              have := hx.wq v hv hvw'
              rw [hq] at this
              rcases List.mem_cons.1 this with h9 | h9
              · exact absurd h9 e
              · exact h9
          · rcases hx.ok v hv with h9 | h9
            · rw [hq] at h9
              rcases List.mem_cons.1 h9 with h9 | h9
              · exact absurd h9 hvu
              · exact .inl h9
            · exact .inr h9
        have h2 := Ru.relaxAll hu (hw.take hq) h0 hls hy
        have h3 := settleGo_finds hok (relaxAll_wf hu (hw.take hq) (fun l hl => (hls l hl).1) hy).1 (⟨h2.1.wq, fun v hv => by
          by_cases e : v = u
          · subst e; exact .inr (.inr (fun l hl => h2.1.du l hl))
          · exact h2.1.ok v hv e⟩) h
        exact ⟨h3.1, fun v hv => Int.le_trans (h3.2.1 v hv) (h2.2 v hv), h3.2.2⟩
end Ch
