/- append of links, inside a region that draws its order. -/
import Derived.Test.YtemacokojdeimaaGreatDoorZ07
set_option linter.unusedSimpArgs false
set_option linter.unusedVariables false
namespace Go.Proofs.YtemacokojdeimaaGreatDoor
open Go.RowKit

/-- append of links that lie in a row, to links of one's own, inside a region that draws its order -/
theorem step_append_lks {w : World} {ops : Array Oper} {o : Oper} {a : Act} {K : Act → World → Prop} {Q : Exit → Act → World → Prop} {E : Prop} (hgd : o.guard = none) (s x : Operand)
    (ho : o.op = .call { callee := .builtin .append, args := #[s, x], argTypes := #[22, 22] })
    (base : Nat) (v : Value) (n : Nat) (pre : List Ch.Lk) (hs : a.eval s = v) (hown : w.ownsRow base 54 3 v n (lkCells pre))
    (b : Option Addr) (m cap : Nat) (L : List Ch.Lk) (hm : L.length = m) (hx : a.eval x = .slice b m cap) (hL : LksAt w b L) (hb : b = none → cap = 0)
    (h9 : n + m ≤ 100000) (hbase : base ≤ w.heap.size)
    (h : ∀ p cp w', w'.ownsRow base 54 3 (.slice p (n + m) cp) (n + m) (lkCells (pre ++ L)) → w.grownBy w' v.ownBlock → K (a.put o.dst (.slice p (n + m) cp)) w') :
    if Region.wanted o (yielded ops a.tmps) = true then Oper.wp Tryz.prog o a w K Q else E := by
  have hw : Region.wanted o (yielded ops a.tmps) = true := by unfold Region.wanted; rw [hgd]
  rw [if_pos hw]
  obtain ⟨i0, hi, hz0, hz1, hz2⟩ := info_parts infoLk
  subst hm
  cases b with
  | none =>
    have h0 := hb rfl
    subst h0
    have hl : L = [] := by
      cases L with
      | nil => rfl
      | cons l r =>
        obtain ⟨x, hx, _⟩ := hL 0 (by simp)
        cases hx
    subst hl
    have hrun := run_append_owned_none (P := Tryz.prog) (w := w) base 22 o.type 54 i0 3 Tryz.underlying22 hi v n _ hown
    obtain ⟨p, cp, hv, _⟩ := owns_slice hown
    have h2 := h p cp w (by rw [List.append_nil]; rw [hv] at hown; exact hown) (by exact grownBy_refl _ _)
    have hx' : a.eval x = .slice none 0 0 := hx
    unfold Oper.wp
    simp [execOp, ho, resolve, invoke, builtin, hs, hx', hrun, Result.andThen]
    rw [hv]
    exact h2
  | some ad =>
    refine wp_append_own w s x 22 ho base 54 i0 _ 3 24 Tryz.underlying22 hi hz0 hz1 hz2 rfl (by decide) v n _ hs hown ad L.length cap (lkCells L) hx (lkCells_len L) (fun j u hu => lks_cells hL j u hu) (lk_one L) ?_ ?_ hbase ?_
    · unfold maxLen; omega
    · omega
    · intro v' w' h1 h2 _
      rw [← lkCells_append] at h1
      obtain ⟨p, cp, rfl, _⟩ := owns_slice h1
      exact h p cp w' h1 h2

/-- are two lists of links the same from the k-th on -/
theorem lk_ext {L L2 : List Ch.Lk} (h : L.length = L2.length) (hk : ∀ k, k < L.length → L.getD k Ch.noLk = L2.getD k Ch.noLk) : L = L2 := by
  apply List.ext_getElem h
  intro k h1 h2
  have := hk k h1
  rw [List.getD, List.getD, List.getElem?_eq_getElem h1, List.getElem?_eq_getElem h2] at this
  exact this
theorem same_iff {a b : Ch.Lk} : Ch.sameLk a b = true ↔ a = b := by
  unfold Ch.sameLk
  simp only [Bool.and_eq_true, beq_iff_eq]
  constructor
  · rintro ⟨⟨h1, h2⟩, h3⟩
    cases a; cases b; simp at h1 h2 h3; subst h1; subst h2; subst h3; rfl
  · rintro rfl; exact ⟨⟨rfl, rfl⟩, rfl⟩
end Go.Proofs.YtemacokojdeimaaGreatDoor
