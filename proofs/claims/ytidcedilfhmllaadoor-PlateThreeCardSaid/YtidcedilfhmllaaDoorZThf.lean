/- Layer 3, plain: the stage's theorem on the plain side. -/
import Derived.Test.YtidcedilfhmllaaDoorZThs
set_option linter.unusedSimpArgs false
set_option linter.unusedVariables false
namespace Pl

def rf (t : Nat) : Bool := decide (4 ≤ t)
theorem rf_all : (List.range 8).all (fun a => rf (inv a) == rf a && (List.range 8).all fun b => rf (cmp a b) == (rf a != rf b)) = true := by decide +kernel
theorem rf_inv {a : Nat} (h : a < 8) : rf (inv a) = rf a := by
  have := range_all rf_all h
  rw [Bool.and_eq_true] at this
  exact beq_iff_eq.1 this.1
theorem rf_cmp {a b : Nat} (h : a < 8) (g : b < 8) : rf (cmp a b) = (rf a != rf b) := by
  have := range_all rf_all h
  rw [Bool.and_eq_true] at this
  exact beq_iff_eq.1 (range_all this.2 g)
/-- if each working reflects as a potential says, Minus is reflection -/
def Pot (W : List Wk) (ψ : Int → Bool) : Prop := ∀ i, i < W.length → (rf (W.getD i noW).t.toNat != (ψ (W.getD i noW).a != ψ (W.getD i noW).b)) = true
theorem Pot.step {m : Int} {W : List Wk} (hW : Ok m W) {ψ : Int → Bool} (h : Pot W ψ) {s y : St} {k : Int} (hk : k ∈ stps W.length) (hs : s.t < 8) (ha : adv W s k = some y) : (rf y.t != (y.m != ψ y.p)) = (rf s.t != (s.m != ψ s.p)) := by
  have hk' := mem_stps.1 hk
  unfold adv at ha
  split at ha
  · have ok := okW_spec (hW (-1 - k).toNat (by omega))
    have hp := h (-1 - k).toNat (by omega)
    split at ha
    · rename_i e
      simp only [Option.some.injEq] at ha
      subst ha
      simp only
      rw [rf_cmp hs (inv_lt (by omega)), rf_inv (by omega), ← e]
      generalize rf (W.getD (-1 - k).toNat noW).t.toNat = a at hp ⊢
      generalize ψ (W.getD (-1 - k).toNat noW).a = b at hp ⊢
      generalize ψ (W.getD (-1 - k).toNat noW).b = c at hp ⊢
      generalize rf s.t = d
      generalize s.m = f
      revert hp; cases a <;> cases b <;> cases c <;> cases d <;> cases f <;> decide
    · cases ha
  · have ok := okW_spec (hW k.toNat (by omega))
    have hp := h k.toNat (by omega)
    split at ha
    · rename_i e
      simp only [Option.some.injEq] at ha
      subst ha
      simp only
      rw [rf_cmp hs (by omega), ← e]
      generalize rf (W.getD k.toNat noW).t.toNat = a at hp ⊢
      generalize ψ (W.getD k.toNat noW).a = b at hp ⊢
      generalize ψ (W.getD k.toNat noW).b = c at hp ⊢
      generalize rf s.t = d
      generalize s.m = f
      revert hp; cases a <;> cases b <;> cases c <;> cases d <;> cases f <;> decide
    · cases ha
theorem Pot.runs {m : Int} {W : List Wk} (hW : Ok m W) {ψ : Int → Bool} (h : Pot W ψ) : ∀ (w : List Int) (s y : St), (∀ k ∈ w, k ∈ stps W.length) → s.t < 8 → Pl.runs (adv W) s w = some y → (rf y.t != (y.m != ψ y.p)) = (rf s.t != (s.m != ψ s.p))
  | [], s, y, _, _, hr => by
    simp only [Pl.runs, Option.some.injEq] at hr
    subst hr
    rfl
  | k :: r, s, y, hw, hs, hr => by
    rw [Pl.runs] at hr
    cases ha : adv W s k with
    | none => rw [ha] at hr; cases hr
    | some z =>
      rw [ha] at hr
      have hk := hw k List.mem_cons_self
      rw [Pot.runs hW h r z y (fun x hx => hw x (List.mem_cons_of_mem _ hx)) (adv_in hW hk hs ha).2 hr, h.step hW hk hs ha]
theorem Pot.clo {m : Int} {W : List Wk} (hW : Ok m W) {ψ : Int → Bool} (h : Pot W ψ) {p : Int} {t : Nat} {e : Bool} (hc : Clo W p t e) : e = rf t := by
  obtain ⟨w, h1, h2⟩ := hc
  have := h.runs hW w _ _ h1 (by unfold start; simp only; omega) h2
  unfold start at this
  simp only [show rf 0 = false from rfl] at this
  generalize ψ p = c at this
  generalize rf t = a at this ⊢
  revert this; cases a <;> cases c <;> cases e <;> decide
theorem ok4 {a b r : Nat} (ha : a < 8) (hb : b < 8) (hr : r < 8) : Ok 3 (shop4 a b r) := by
  have c1 := cmp_lt (inv_lt (cmp_lt ha hb)) hr
  have c2 := cmp_lt ha (show 1 < 8 by omega)
  intro i hi
  have : i = 0 ∨ i = 1 ∨ i = 2 ∨ i = 3 := by simp [shop4, shop3] at hi; omega
  unfold okW
  rcases this with rfl | rfl | rfl | rfl <;> simp [shop4, shop3] <;> omega
theorem ok3 {a b r : Nat} (ha : a < 8) (hb : b < 8) (hr : r < 8) : Ok 3 (shop3 a b r) := by
  have c1 := cmp_lt (inv_lt (cmp_lt ha hb)) hr
  intro i hi
  have : i = 0 ∨ i = 1 ∨ i = 2 := by simp [shop3] at hi; omega
  unfold okW
  rcases this with rfl | rfl | rfl <;> simp [shop3] <;> omega
theorem pot4 {a b r : Nat} (ha : a < 8) (hb : b < 8) (hr : r < 8) (h4 : 4 ≤ r) : Pot (shop4 a b r) fun p => if p = 0 then false else if p = 1 then !rf a else (rf a != rf b) := by
  have e1 : rf (cmp (inv (cmp a b)) r) = !(rf a != rf b) := by
    rw [rf_cmp (inv_lt (cmp_lt ha hb)) hr, rf_inv (cmp_lt ha hb), rf_cmp ha hb, show rf r = true from decide_eq_true h4]
    cases rf a <;> cases rf b <;> rfl
  have e2 : rf (cmp a 1) = rf a := by
    rw [rf_cmp ha (by omega), show rf 1 = false from rfl]
    cases rf a <;> rfl
  intro i hi
  have : i = 0 ∨ i = 1 ∨ i = 2 ∨ i = 3 := by simp [shop4, shop3] at hi; omega
  rcases this with rfl | rfl | rfl | rfl
  · show (rf a != (false != !rf a)) = true
    cases rf a <;> rfl
  · show (rf b != ((!rf a) != (rf a != rf b))) = true
    cases rf a <;> cases rf b <;> rfl
  · show (rf (cmp (inv (cmp a b)) r) != ((rf a != rf b) != false)) = true
    rw [e1]
    cases rf a <;> cases rf b <;> rfl
  · show (rf (cmp a 1) != (false != !rf a)) = true
    rw [e2]
    cases rf a <;> rfl
theorem quarter_all : (List.range 8).all (fun a => (cmp (cmp 0 (cmp a 1)) (inv a) == 1 || cmp (cmp 0 (cmp a 1)) (inv a) == 3) && [1, 3].all fun u => cmp (cmp a u) (inv a) == 1 || cmp (cmp a u) (inv a) == 3) = true := by decide +kernel
theorem quarter0 {a : Nat} (h : a < 8) : cmp (cmp 0 (cmp a 1)) (inv a) = 1 ∨ cmp (cmp 0 (cmp a 1)) (inv a) = 3 := by
  have := range_all quarter_all h
  rw [Bool.and_eq_true, Bool.or_eq_true, beq_iff_eq, beq_iff_eq] at this
  exact this.1
theorem quarterC {a u : Nat} (h : a < 8) (hu : u = 1 ∨ u = 3) : cmp (cmp a u) (inv a) = 1 ∨ cmp (cmp a u) (inv a) = 3 := by
  have := range_all quarter_all h
  rw [Bool.and_eq_true] at this
  have := List.all_eq_true.1 this.2 u (by rcases hu with rfl | rfl <;> simp)
  rwa [Bool.or_eq_true, beq_iff_eq, beq_iff_eq] at this
theorem quarter {a b r : Nat} (ha : a < 8) (hb : b < 8) (hr : r < 8) {p : Int} (hp : p = 0 ∨ p = 1 ∨ p = 2) : ∃ q, (q = 1 ∨ q = 3) ∧ Clo (shop4 a b r) p q false := by
  have hW := ok4 ha hb hr
  have c0 : Clo (shop4 a b r) 0 (cmp (cmp 0 (cmp a 1)) (inv a)) false := ⟨[3, -1], fun k hk => by
    simp only [List.mem_cons, List.not_mem_nil, or_false] at hk
    refine mem_stps.2 ?_
    simp only [shop4, shop3, List.length_append, List.length_cons, List.length_nil]
    omega, rfl⟩
  rcases hp with rfl | rfl | rfl
  · exact ⟨_, quarter0 ha, c0⟩
  · have hr1 : runs (adv (shop4 a b r)) (start 1) [-1] = some ⟨0, cmp 0 (inv a), true⟩ := rfl
    exact ⟨_, quarterC (cmp_lt (by omega) (inv_lt ha)) (quarter0 ha), c0.conj hW (w := [-1]) (fun k hk => by
      simp only [List.mem_cons, List.not_mem_nil, or_false] at hk
      refine mem_stps.2 ?_
      simp only [shop4, shop3, List.length_append, List.length_cons, List.length_nil]
      omega) hr1⟩
  · have hr1 : runs (adv (shop4 a b r)) (start 2) [2] = some ⟨0, cmp 0 (cmp (inv (cmp a b)) r), true⟩ := rfl
    exact ⟨_, quarterC (cmp_lt (by omega) (cmp_lt (inv_lt (cmp_lt ha hb)) hr)) (quarter0 ha), c0.conj hW (w := [2]) (fun k hk => by
      simp only [List.mem_cons, List.not_mem_nil, or_false] at hk
      refine mem_stps.2 ?_
      simp only [shop4, shop3, List.length_append, List.length_cons, List.length_nil]
      omega) hr1⟩
theorem signs3 {a b r : Nat} (ha : a < 8) (hb : b < 8) (hr : r = 0 ∨ 4 ≤ r ∧ r < 8) {p : Int} (hp : p = 0 ∨ p = 1 ∨ p = 2) : signs (shop3 a b r) p ∈ if r = 0 then [[(0, false), (0, true)]] else [[(0, false), (4, true)], [(0, false), (5, true)], [(0, false), (6, true)], [(0, false), (7, true)]] := by
  have h1 := range_all (range_all shop3_all ha) hb
  have h2 := List.all_eq_true.1 h1 r (by
    have : r = 0 ∨ r = 4 ∨ r = 5 ∨ r = 6 ∨ r = 7 := by omega
    simpa using this)
  obtain ⟨q, hq, rfl⟩ : ∃ q : Nat, q < 3 ∧ (q : Int) = p := ⟨p.toNat, by omega, by omega⟩
  exact of_decide_eq_true (range_all h2 hq)
/-- the signs of three plates with one more working -/
theorem signs4 {a b r : Nat} (ha : a < 8) (hb : b < 8) (h4 : 4 ≤ r) (hr : r < 8) {p : Int} (hp : p = 0 ∨ p = 1 ∨ p = 2) (x : Nat × Bool) : x ∈ signs (shop4 a b r) p ↔ x ∈ dih := by
  have hW := ok4 ha hb hr
  have hp3 : 0 ≤ p ∧ p < 3 := by omega
  obtain ⟨t, e⟩ := x
  rw [mem_signs (by omega) hW hp3]
  constructor
  · intro h
    have h1 := (pot4 ha hb hr h4).clo hW h
    have h2 := h.lt hW
    subst h1
    have : t = 0 ∨ t = 1 ∨ t = 2 ∨ t = 3 ∨ t = 4 ∨ t = 5 ∨ t = 6 ∨ t = 7 := by omega
    rcases this with rfl | rfl | rfl | rfl | rfl | rfl | rfl | rfl <;> decide
  · intro h
    obtain ⟨q, hq, g⟩ := quarter ha hb hr hp
    have k := signs3 ha hb (Or.inr ⟨h4, hr⟩) hp
    rw [if_neg (by omega)] at k
    obtain ⟨u, hu, c⟩ : ∃ u, (u = 4 ∨ u = 5 ∨ u = 6 ∨ u = 7) ∧ (u, true) ∈ signs (shop3 a b r) p := by
      simp only [List.mem_cons, List.not_mem_nil, or_false] at k
      rcases k with k | k | k | k <;> rw [k]
      · exact ⟨4, by omega, by simp⟩
      · exact ⟨5, by omega, by simp⟩
      · exact ⟨6, by omega, by simp⟩
      · exact ⟨7, by omega, by simp⟩
    have c := ((mem_signs (by omega) (ok3 ha hb hr) hp3).1 c).more ⟨0, 1, cmp a 1⟩
    exact dih_sub hW hu hq c g _ h
theorem evG_congr (s : Nat) {G K : List (Nat × Bool)} (h : ∀ x, x ∈ G ↔ x ∈ K) : evG s G = evG s K := by
  unfold evG
  refine List.filter_congr fun x _ => ?_
  have e1 : G.all (fun g => decide (x ≤ tk s g.1 x)) = K.all fun g => decide (x ≤ tk s g.1 x) := by
    rw [Bool.eq_iff_iff, List.all_eq_true, List.all_eq_true]
    exact ⟨fun q g hg => q g ((h g).2 hg), fun q g hg => q g ((h g).1 hg)⟩
  have e2 : G.any (fun g => g.2 && tk s g.1 x == x) = K.any fun g => g.2 && tk s g.1 x == x := by
    rw [Bool.eq_iff_iff, List.any_eq_true, List.any_eq_true]
    exact ⟨fun ⟨g, hg, q⟩ => ⟨g, (h g).1 hg, q⟩, fun ⟨g, hg, q⟩ => ⟨g, (h g).2 hg, q⟩⟩
  rw [e1, e2]
end Pl
