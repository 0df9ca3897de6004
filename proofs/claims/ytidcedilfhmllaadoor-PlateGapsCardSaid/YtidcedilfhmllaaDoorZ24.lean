/- What the claims of layer 3 share, part 24: several texts one behind the other. -/
import Derived.Test.YtidcedilfhmllaaDoorZ23
import Derived.StillTail
import Derived.StillTailTactics
import Derived.Deep.RegionHeld3
set_option linter.unusedSimpArgs false
set_option linter.unusedVariables false
/- A region that draws its order, reads first and stores last, inside a round. -/
namespace Go.Proofs.YtidcedilfhmllaaDoor
open Go.RowKit

variable {n : Nat} {P : Program} {Q : Exit → Act → World → Prop} {a : Act} {w : World}

theorem rows_wide {row : String} {args : Array Value} {R : Value → World → Prop} (h : Rows P row args w R) : RowsIn Fence.wide n P row args w R := fun c cs _ =>
  let ⟨v, w', r, s⟩ := h c cs
  ⟨v, w', r, stepsIn_wide.2 s⟩

/-- an operation that is walked at no fence, walked at the wide one -/
theorem oper_wide {o : Oper} {K : Act → World → Prop} (h : o.wp P a w K Q) : o.wpIn Fence.wide n P a w K Q := by
  refine ⟨fun _ _ => trivial, ?_⟩
  unfold Oper.wp at h
  show o.uponIn Fence.wide n P a K Q ((execOp a.eval o).run P w)
  generalize (execOp a.eval o).run P w = r at h ⊢
  cases r with
  | ok x w' =>
    cases x with
    | enter f args => exact ⟨fun h => by simp [Fence.wide] at h, callsIn_wide.2 h⟩
    | row row args => exact ⟨fun h => by simp [Fence.wide] at h, rows_wide h⟩
    | _ => first | exact h | exact h.elim
  | halt x w' => cases x <;> first | exact h | exact h.elim

theorem any_wide {md : Region.Mode} {ops : Array Oper} (hQ : ¬ LetsOut Q) : ∀ (fuel : Nat) (listed : Array Bool) (a : Act) (w : World), wpAny P md ops Q fuel listed a w → wpAnyIn Fence.wide n P md ops Q fuel listed a w
  | 0, _, _, _, h => h
  | fuel + 1, listed, a, w, h => ⟨h.1, fun i hi => by
    have h2 := h.2 i hi
    unfold wpOp at h2
    unfold wpOpIn
    cases ho : ops[i]? with
    | none => simp only [ho] at h2 ⊢; exact any_wide hQ fuel _ _ _ h2
    | some o =>
      simp only [ho] at h2 ⊢
      split
      · rename_i hw
        simp only [hw, if_true] at h2
        exact Oper.wpIn_mono (fun a w h => any_wide hQ fuel _ a w h) (oper_wide (h2.resolve_right (fun h => hQ h.2)))
      · rename_i hw
        simp only [hw] at h2
        exact ⟨fun _ _ => trivial, any_wide hQ fuel _ _ _ h2⟩⟩

/-- reads first, then stores: one walk serves every order, inside a round -/
theorem tail_round {id r k : Nat} {ops : List Oper} (m : Nat) (hQ : ¬ LetsOut Q) (hd : noDefer ops = true) (hm : P.follows .mixedOrders = true) (hB : Region.lexTailB .any ops.toArray m = true)
    (h : wpStill P ops.toArray { w with drawn := w.drawn + 1 } (fun a' => wpList P ops.toArray Q (ops.drop m) a' { w with drawn := w.drawn + 1 }) (ops.take m) a) : (Code.region id ops.toArray true).wpIn (Fence.wide.inRound r) k P Q a w := by
  simp only [Region.lexTailB, Bool.and_eq_true, decide_eq_true_eq] at hB
  obtain ⟨⟨⟨⟨h1, h2⟩, h3⟩, h4⟩, h5⟩ := hB
  have h6 : m < ops.length := by simpa using h2
  have h7 : (ops.take m).length = m := by simp; omega
  have h8 : (ops.drop m).length = ops.toArray.size - m := by simp
  have H := wpAnyL_lex (md := .any) (g := ops.toArray.size - m) h1 h3 h4 h2 (ops.take m) 0 (Array.replicate ops.toArray.size false) a (fun j hj => by
    have : j < m := by rw [h7] at hj; exact hj
    simp [this]) (by simpa using h7) ⟨by simp, fun j oj _ hl => (by rw [getD_replicate_false] at hl; cases hl), fun t _ ht => getD_in (by simpa using ht) (getD_replicate_false _ _)⟩ (by rw [h7]; exact h5) h
  have K := wpAny_of_head (Q' := Q) (g := ops.toArray.size - m) (fun listed a' hL => by
    have e := wpAny_of_seq (md := .any) (Q' := Q) (ops.drop m) m listed a' { w with drawn := w.drawn + 1 } (fun j => by simp [List.getElem?_drop]) (by rw [h8]; exact hL.1) hL.2
    rwa [h8] at e) _ _ _ H
  rw [h7, show m + (ops.toArray.size - m) = ops.toArray.size by omega] at K
  exact wpIn_region_any hm (any_round rfl (noDefer_spec hd) _ _ _ _ (any_wide hQ _ _ _ _ K))
/-- any order, a condition on the world kept behind each operation, inside a round -/
theorem held_round {id r k : Nat} {ops : List Oper} (S : World → Prop) (hQ : ¬ LetsOut Q) (hd : noDefer ops = true) (hm : P.follows .mixedOrders = true) (hS : S w.drew)
    (h : S w.drew → wpAnyH P .any ops.toArray Q S ops.toArray.size (Array.replicate ops.toArray.size false) a w.drew) : (Code.region id ops.toArray true).wpIn (Fence.wide.inRound r) k P Q a w :=
  wpIn_region_any hm (any_round rfl (noDefer_spec hd) _ _ _ _ (any_wide hQ _ _ _ _ (wpAny_of_held _ _ _ _ (h hS))))
end Go.Proofs.YtidcedilfhmllaaDoor
