/- A region that draws its order, its tail forced, inside a round. -/
import Derived.Test.YtidcedilfhmllaaDoorZ24
import Derived.Test.YtidcedilfhmllaaDoorZ12
set_option linter.unusedSimpArgs false
set_option linter.unusedVariables false
namespace Go.Proofs.YtidcedilfhmllaaDoor
open Go.RowKit
variable {P : Program} {Q : Exit → Act → World → Prop} {a : Act} {w : World}

theorem head_round {id r k : Nat} {l : List Oper} (n : Nat) (S : World → Prop) (hQ : ¬ LetsOut Q) (hd : noDefer l = true) (hm : P.follows .mixedOrders = true) (hB : tailOk l n = true) (hS : S w.drew)
    (h : S w.drew → wpAnyH P .any (l.take n).toArray (thenTail P l.toArray Q (l.drop n)) S n (Array.replicate n false) a w.drew) : (Code.region id l.toArray true).wpIn (Fence.wide.inRound r) k P Q a w := by
  simp only [tailOk, Bool.and_eq_true, decide_eq_true_eq] at hB
  obtain ⟨⟨⟨⟨h1, h2⟩, h3⟩, h4⟩, h5⟩ := hB
  have h6 := any_head (Q := Q) h1 h2 h3 h4 (fun listed g1 g2 g3 => by rw [listed_eq (Nat.le_of_lt h3) g1 g2 g3]; exact h5) n (Array.replicate l.length false) (Array.replicate n false) a w.drew
    ⟨by simp, (fun j oj hj hl => by rw [getD_replicate_false] at hl; cases hl), fun t ht ht2 => by simp at ht2; simp [ht2]⟩ (by simp) (fun i hi => by simp [hi, show i < l.length by omega]) (wpAny_of_held _ _ _ _ (h hS))
  rw [List.length_drop] at h6
  have K : wpAny P .any l.toArray Q l.toArray.size (Array.replicate l.toArray.size false) a w.drew := by
    rw [show l.toArray.size = n + (l.length - n) by simp; omega, show Array.replicate (n + (l.length - n)) false = Array.replicate l.length false by congr 1; omega]
    exact h6
  exact wpIn_region_any hm (any_round rfl (noDefer_spec hd) _ _ _ _ (any_wide hQ _ _ _ _ K))
end Go.Proofs.YtidcedilfhmllaaDoor
