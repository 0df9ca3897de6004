/- Layer 3, plain: three plates worked in turn, and one more working, turned by a quarter. -/
import Derived.Test.YtidcedilfhmllaaDoorZThr
set_option linter.unusedSimpArgs false
set_option linter.unusedVariables false
namespace Pl

theorem getD_more {W : List Wk} {x : Wk} {i : Nat} (h : i < W.length) : (W ++ [x]).getD i noW = W.getD i noW := by
  rw [List.getD, List.getD, List.getElem?_append_left h]
theorem adv_more {W : List Wk} {x : Wk} {s : St} {k : Int} (hk : k ∈ stps W.length) : adv (W ++ [x]) s k = adv W s k := by
  have hk' := mem_stps.1 hk
  unfold adv
  split
  · rw [getD_more (by omega)]
  · rw [getD_more (by omega)]
theorem stps_more {W : List Wk} {x : Wk} {k : Int} (hk : k ∈ stps W.length) : k ∈ stps (W ++ [x]).length := by
  have hk' := mem_stps.1 hk
  refine mem_stps.2 ?_
  rw [List.length_append, List.length_cons, List.length_nil]
  omega
theorem runs_more {W : List Wk} {x : Wk} : ∀ (w : List Int) (s : St), (∀ k ∈ w, k ∈ stps W.length) → runs (adv (W ++ [x])) s w = runs (adv W) s w
  | [], _, _ => rfl
  | k :: r, s, h => by
    rw [runs, runs, adv_more (h k List.mem_cons_self)]
    congr 1
    funext b
    exact runs_more r b fun y hy => h y (List.mem_cons_of_mem _ hy)
/-- with one more working all closed walks stay -/
theorem Clo.more {W : List Wk} {p : Int} {t : Nat} {e : Bool} (h : Clo W p t e) (x : Wk) : Clo (W ++ [x]) p t e := by
  obtain ⟨w, h1, h2⟩ := h
  exact ⟨w, fun k hk => stps_more (h1 k hk), by rw [runs_more w _ h1]; exact h2⟩
/-- the even classes of a group -/
def evG (s : Nat) (G : List (Nat × Bool)) : List Nat := (List.range (s * s)).filter fun x => G.all (fun g => decide (x ≤ tk s g.1 x)) && !G.any fun g => g.2 && tk s g.1 x == x
theorem Grp.evs {s : Nat} (hs : s ≤ 6) {G : List (Nat × Bool)} (h : Grp G) {l : Nat → Nat} {w : Nat → Int} (hu : Uf (s * s) (edges s G) l w) : Pl.evs (s * s) l w = evG s G := by
  unfold Pl.evs evG
  refine List.filter_congr fun x hx => ?_
  have hx := List.mem_range.1 hx
  have c := h.cls hs hu hx
  have e1 : decide (l x = x) = G.all fun g => decide (x ≤ tk s g.1 x) := by
    rw [Bool.eq_iff_iff, decide_eq_true_eq, List.all_eq_true]
    constructor
    · intro e g hg
      have := c.min g hg
      rw [e] at this
      exact decide_eq_true this
    · intro k
      obtain ⟨g, hg, e⟩ := c.at_
      have k1 := of_decide_eq_true (k g hg)
      have k2 := hu.le x hx
      omega
  have e2 : decide (w x ≠ 0) = !G.any fun g => g.2 && tk s g.1 x == x := by
    rw [Bool.eq_iff_iff, decide_eq_true_eq, Bool.not_eq_true', ← Bool.not_eq_true, List.any_eq_true]
    refine not_congr (c.pin.trans ⟨fun ⟨g, hg, a, b⟩ => ⟨g, hg, by rw [a, b]; simp⟩, fun ⟨g, hg, k⟩ => ?_⟩)
    rw [Bool.and_eq_true, beq_iff_eq] at k
    exact ⟨g, hg, k.1, k.2⟩
  rw [e1, e2]
theorem flat0_all : (List.range 7).all (fun s => s == 0 || evG s [(0, false), (0, true)] == []) = true := by decide +kernel
theorem twist_all : (List.range 7).all (fun s => decide (s < 2) || [4, 5, 6, 7].all fun r => evG s [(0, false), (r, true)] != []) = true := by decide +kernel
theorem dih_all : (List.range 7).all (fun s => decide (4 < s) || (evG s dih).length == if s = 4 then 1 else 0) = true := by decide +kernel
/-- what a rotation by a quarter and a reflection with Minus make -/
theorem dih_sub {W : List Wk} {m : Int} (hW : Ok m W) {p : Int} {r q : Nat} (hr : r = 4 ∨ r = 5 ∨ r = 6 ∨ r = 7) (hq : q = 1 ∨ q = 3) (h : Clo W p r true) (g : Clo W p q false) : ∀ x ∈ dih, Clo W p x.1 x.2 := by
  have g2 := g.mul hW g
  have g3 := g2.mul hW g
  have h1 := h.mul hW g
  have h2 := h.mul hW g2
  have h3 := h.mul hW g3
  have o := clo_one W p
  intro x hx
  simp only [dih, List.mem_cons, List.not_mem_nil, or_false] at hx
  rcases hr with rfl | rfl | rfl | rfl <;> rcases hq with rfl | rfl <;> simp [cmp] at g2 g3 h1 h2 h3 <;> rcases hx with rfl | rfl | rfl | rfl | rfl | rfl | rfl | rfl <;> assumption
end Pl
