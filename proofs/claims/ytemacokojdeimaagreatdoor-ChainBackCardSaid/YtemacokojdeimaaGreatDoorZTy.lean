/- The mathematics of the texts of systems: the specification's reading, and that it is chain's. -/
import Derived.Test.YtemacokojdeimaaGreatDoorZTx
set_option linter.unusedSimpArgs false
set_option linter.unusedVariables false
namespace Tx
open Go.Lib

theorem itoa_len_pos (n : Int) : 1 ≤ (itoa n).length := by
  have := itoa_ne n
  cases h : itoa n with
  | nil => exact (this h).elim
  | cons c r => simp

/-- the digits from a place on: their number, kept at most 2^53, and how many they are -/
def dgo : List UInt8 → Nat → Nat × Nat
  | [], n => (n, 0)
  | c :: r, n => if 48 ≤ c.toNat ∧ c.toNat ≤ 57 then ((dgo r (min (10 * n + (c.toNat - 48)) 9007199254740992)).1, (dgo r (min (10 * n + (c.toNat - 48)) 9007199254740992)).2 + 1) else (n, 0)
theorem dgo_dig : ∀ (l : List UInt8) (n : Nat) (r : List UInt8), (∀ c ∈ l, isDig c) → (∀ c q, r = c :: q → ¬ isDig c) → dval n l ≤ 9007199254740992 → dgo (l ++ r) n = (dval n l, l.length)
  | [], n, [], _, _, _ => rfl
  | [], n, c :: q, _, hr, _ => by
    show dgo (c :: q) n = _
    have hc : ¬ (48 ≤ c.toNat ∧ c.toNat ≤ 57) := hr c q rfl
    rw [dgo, if_neg hc]
    rfl
  | c :: l, n, r, h, hr, hv => by
    rw [dval_cons] at hv ⊢
    have h1 := dval_le l (dstep n c)
    have e : min (10 * n + (c.toNat - 48)) 9007199254740992 = dstep n c := by
      unfold dstep at h1 hv ⊢
      omega
    have hc : 48 ≤ c.toNat ∧ c.toNat ≤ 57 := h c List.mem_cons_self
    rw [List.cons_append, dgo, if_pos hc, e, dgo_dig l _ r (fun x hx => h x (List.mem_cons_of_mem _ hx)) hr hv]
    rfl
/-- value: the number at a place, and the place behind it -/
def vAt (s : List UInt8) (p : Nat) : Int × Nat :=
  if (s.drop p).head? = some 45 then (-((dgo (s.drop (p + 1)) 0).1 : Int), p + 1 + (dgo (s.drop (p + 1)) 0).2) else (((dgo (s.drop p) 0).1 : Int), p + (dgo (s.drop p) 0).2)
theorem vAt_itoa {s : List UInt8} {p : Nat} {x : Int} {r : List UInt8} (h : s.drop p = itoa x ++ r) (hr : ∀ c q, r = c :: q → ¬ isDig c) (h1 : -9007199254740992 ≤ x) (h2 : x ≤ 9007199254740992) : vAt s p = (x, p + (itoa x).length) ∧ s.drop (p + (itoa x).length) = r := by
  refine ⟨?_, by rw [← List.drop_drop, h]; simp⟩
  unfold vAt
  by_cases hx : x < 0
  · have e : itoa x = 45 :: decDigits x.natAbs := by unfold itoa; rw [if_pos hx]
    have e1 : s.drop (p + 1) = decDigits x.natAbs ++ r := by rw [← List.drop_drop, h, e]; rfl
    rw [h, e1, dgo_dig _ _ r (decDigits_dig _) hr (by rw [decDigits_val]; omega), decDigits_val, e]
    rw [if_pos (by simp), Prod.mk.injEq]
    simp only [List.length_cons]
    omega
  · have e : itoa x = decDigits x.toNat := by unfold itoa; rw [if_neg hx]
    have h45 : ¬ ((decDigits x.toNat ++ r).head? = some 45) := by
      intro hh
      cases hd : decDigits x.toNat with
      | nil => exact decDigits_ne _ hd
      | cons c q =>
        rw [hd] at hh
        simp only [List.cons_append, List.head?_cons, Option.some.injEq] at hh
        have := decDigits_dig x.toNat c (by rw [hd]; exact List.mem_cons_self)
        rw [hh] at this
        exact absurd this (by unfold isDig; decide)
    rw [h, e, if_neg h45, dgo_dig _ _ r (decDigits_dig _) hr (by rw [decDigits_val]; omega), decDigits_val, Prod.mk.injEq]
    omega

/-- the loop over the links; k counts from 301 down -/
def lkGo (s : List UInt8) : Nat → Nat → List Ch.Lk → List Ch.Lk
  | 0, _, acc => acc
  | k + 1, p, acc =>
    if p + 6 < s.length then lkGo s k (vAt s ((vAt s ((vAt s (p + 6)).2 + 1)).2 + 1)).2 (acc ++ [⟨(vAt s (p + 6)).1, (vAt s ((vAt s (p + 6)).2 + 1)).1, (vAt s ((vAt s ((vAt s (p + 6)).2 + 1)).2 + 1)).1⟩])
    else acc
/-- the specification's Parse -/
def rprs (s : List UInt8) : Option (Int × List Ch.Lk) :=
  if s.length < 7 ∨ ¬ s.take 6 = nodesB ++ [32] then none
  else if (Ch.check (vAt s 6).1 (lkGo s 301 (vAt s 6).2 [])).1 = 0 ∧ prt (vAt s 6).1 (lkGo s 301 (vAt s 6).2 []) = s then some ((vAt s 6).1, lkGo s 301 (vAt s 6).2 []) else none
/-- chain's Parse -/
def prs (s : List UInt8) : Option (Int × List Ch.Lk) :=
  match rdT s with
  | some x => if (Ch.check x.1 x.2).1 = 0 then some x else none
  | none => none

def tailL (L : List Ch.Lk) : List UInt8 := L.flatMap (fun l => 10 :: line1 l) ++ [10]
theorem tail_eq : ∀ L : List Ch.Lk, (10 : UInt8) :: L.flatMap (fun l => line1 l ++ [10]) = tailL L
  | [] => rfl
  | l :: r => by
    have := tail_eq r
    unfold tailL at this ⊢
    simp only [List.flatMap_cons, List.append_assoc, List.cons_append] at this ⊢
    rw [← this]
    simp
theorem prt_eq (n : Int) (L : List Ch.Lk) : prt n L = nodesB ++ [32] ++ (itoa n ++ tailL L) := by
  unfold prt
  rw [tail_eq]
  simp [jn]
theorem nd10 (q0 : List UInt8) : ∀ c q, (10 : UInt8) :: q0 = c :: q → ¬ isDig c := fun c q h => by
  simp only [List.cons.injEq] at h
  rw [← h.1]
  unfold isDig; decide
theorem nd32 (q0 : List UInt8) : ∀ c q, (32 : UInt8) :: q0 = c :: q → ¬ isDig c := fun c q h => by
  simp only [List.cons.injEq] at h
  rw [← h.1]
  unfold isDig; decide
theorem tail_nd (L : List Ch.Lk) : ∀ c q, tailL L = c :: q → ¬ isDig c := by
  rw [← tail_eq]
  exact nd10 _
theorem tail_pos (L : List Ch.Lk) : 1 ≤ (tailL L).length := by simp [tailL]
def R53 (l : Ch.Lk) : Prop := (-9007199254740992 ≤ l.f ∧ l.f ≤ 9007199254740992) ∧ (-9007199254740992 ≤ l.t ∧ l.t ≤ 9007199254740992) ∧ -9007199254740992 ≤ l.m ∧ l.m ≤ 9007199254740992
theorem lkGo_tail (s : List UInt8) : ∀ (L : List Ch.Lk) (k p : Nat) (acc : List Ch.Lk), (∀ l ∈ L, R53 l) → L.length ≤ k → p ≤ s.length → s.drop p = tailL L → lkGo s k p acc = acc ++ L
  | [], k, p, acc, _, _, hp, h => by
    have hl := congrArg List.length h
    simp [tailL] at hl
    cases k with
    | zero => simp [lkGo]
    | succ k => rw [lkGo, if_neg (by omega)]; simp
  | l :: r, k, p, acc, hR, hk, hp, h => by
    obtain ⟨k, rfl⟩ : ∃ j, k = j + 1 := ⟨k - 1, by simp only [List.length_cons] at hk; omega⟩
    obtain ⟨⟨a1, a2⟩, ⟨b1, b2⟩, c1, c2⟩ := hR l List.mem_cons_self
    have e : tailL (l :: r) = [10, 108, 105, 110, 107, 32] ++ (itoa l.f ++ 32 :: (itoa l.t ++ 32 :: (itoa l.m ++ tailL r))) := by
      simp [tailL, line1, jn, linkB]
    have h6 : s.drop (p + 6) = itoa l.f ++ 32 :: (itoa l.t ++ 32 :: (itoa l.m ++ tailL r)) := by
      rw [← List.drop_drop, h, e]; rfl
    obtain ⟨v1, d1⟩ := vAt_itoa h6 (nd32 _) a1 a2
    have d1' : s.drop (p + 6 + (itoa l.f).length + 1) = itoa l.t ++ 32 :: (itoa l.m ++ tailL r) := by rw [← List.drop_drop, d1]; rfl
    obtain ⟨v2, d2⟩ := vAt_itoa d1' (nd32 _) b1 b2
    have d2' : s.drop (p + 6 + (itoa l.f).length + 1 + (itoa l.t).length + 1) = itoa l.m ++ tailL r := by rw [← List.drop_drop, d2]; rfl
    obtain ⟨v3, d3⟩ := vAt_itoa d2' (tail_nd r) c1 c2
    have hl := congrArg List.length h6
    have hl3 := congrArg List.length d3
    have ht := tail_pos r
    simp only [List.length_drop, List.length_append, List.length_cons] at hl hl3
    have hf := itoa_len_pos l.f
    rw [lkGo, if_pos (by omega), v1]
    simp only [v2, v3]
    rw [lkGo_tail s r k _ _ (fun x hx => hR x (List.mem_cons_of_mem _ hx)) (by simp only [List.length_cons] at hk; omega) (by omega) d3]
    simp
theorem check_rng {n : Int} {L : List Ch.Lk} (h : (Ch.check n L).1 = 0) : (1 ≤ n ∧ n ≤ 60) ∧ L.length ≤ 300 ∧ ∀ l ∈ L, (0 ≤ l.f ∧ l.f ≤ 60) ∧ (0 ≤ l.t ∧ l.t ≤ 60) ∧ -4503599627370496 ≤ l.m ∧ l.m ≤ 4503599627370496 := by
  obtain ⟨h1, h2, h3, h4⟩ := Ch.check_ok h
  refine ⟨⟨h1, h2⟩, h3, fun l hl => ?_⟩
  obtain ⟨i, hi, rfl⟩ := List.getElem_of_mem hl
  have := Ch.okLk_spec (h4 i hi)
  have e : L.getD i Ch.noLk = L[i] := by rw [List.getD, List.getElem?_eq_getElem hi]; rfl
  rw [e] at this
  omega
theorem rd_prt_ok {n : Int} {L : List Ch.Lk} (h : (Ch.check n L).1 = 0) : rdT (prt n L) = some (n, L) := by
  obtain ⟨h1, h2, h3⟩ := check_rng h
  exact rd_prt n L (by unfold R64; omega) (fun l hl => by have := h3 l hl; unfold R64; omega) h2
theorem rprs_prt {n : Int} {L : List Ch.Lk} (h : (Ch.check n L).1 = 0) : rprs (prt n L) = some (n, L) := by
  obtain ⟨h1, h2, h3⟩ := check_rng h
  have hn := itoa_len_pos n
  have ht := tail_pos L
  have e := prt_eq n L
  have hl := congrArg List.length e
  have d : (prt n L).drop 6 = itoa n ++ tailL L := by rw [e]; rfl
  have t6 : (prt n L).take 6 = nodesB ++ [32] := by rw [e]; rfl
  obtain ⟨v, w⟩ := vAt_itoa d (tail_nd L) (by omega) (by omega)
  have g := lkGo_tail (prt n L) L 301 _ [] (fun l hl => by have := h3 l hl; unfold R53; omega) (by omega) (by
    have hl3 := congrArg List.length w
    simp only [List.length_drop] at hl3
    omega) w
  simp only [List.nil_append] at g
  unfold rprs
  simp only [List.length_append, nodesB, List.length_cons, List.length_nil] at hl
  rw [if_neg (by rw [t6]; simp; omega), v]
  simp only [g]
  rw [if_pos ⟨h, trivial⟩]
theorem rprs_some {s : List UInt8} {n : Int} {L : List Ch.Lk} (h : rprs s = some (n, L)) : (Ch.check n L).1 = 0 ∧ prt n L = s := by
  unfold rprs at h
  split at h
  · cases h
  · split at h
    · rename_i hc
      simp only [Option.some.injEq, Prod.mk.injEq] at h
      rw [h.1] at hc h
      rw [h.2] at hc
      exact hc
    · cases h
theorem prs_some {s : List UInt8} {n : Int} {L : List Ch.Lk} (h : prs s = some (n, L)) : (Ch.check n L).1 = 0 ∧ prt n L = s := by
  unfold prs at h
  split at h
  · rename_i x hx
    split at h
    · rename_i hc
      simp only [Option.some.injEq] at h
      subst h
      exact ⟨hc, (prt_rd hx).1⟩
    · cases h
  · cases h
theorem prs_prt {n : Int} {L : List Ch.Lk} (h : (Ch.check n L).1 = 0) : prs (prt n L) = some (n, L) := by
  unfold prs
  rw [rd_prt_ok h]
  simp only
  rw [if_pos h]
/-- chain reads what the specification reads -/
theorem prs_rprs (s : List UInt8) : prs s = rprs s := by
  cases h : prs s with
  | some x =>
    obtain ⟨n, L⟩ := x
    obtain ⟨h1, rfl⟩ := prs_some h
    rw [rprs_prt h1]
  | none =>
    cases g : rprs s with
    | none => rfl
    | some x =>
      obtain ⟨n, L⟩ := x
      obtain ⟨h1, rfl⟩ := rprs_some g
      rw [prs_prt h1] at h
      cases h
end Tx
