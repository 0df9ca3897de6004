/- What the laws share: a system in its box, a table of rows, lengths of the greatest and the least values. -/
import Derived.Test.YtkcchangkhklcaaZYb
import Derived.Test.YtkcchangkhklcaaZUk
set_option linter.unusedSimpArgs false
set_option linter.unusedVariables false
namespace Ch
theorem least_len {n : Int} {L : List Lk} {k : Nat} (hE : (check n L).1 = 0 → enough n.toNat L [] k = true) (h : opn n L [] k = 0) : (least n L k).length = n.toNat := by
  obtain ⟨h1, _, h3⟩ := opn_ok h
  obtain ⟨n1, _⟩ := check_ok h1
  unfold least
  rw [List.length_map]
  exact (enough_bt (hE h1) h3 (v := 0) (by omega)).2.1
theorem great_len {n : Int} {L : List Lk} {k : Nat} (hE : (check n (turned L)).1 = 0 → enough n.toNat (turned L) [] k = true) (h : greatE n L k = 0) : (greatest n L k).length = n.toNat := by
  unfold greatest
  rw [List.length_map]
  refine least_len hE ?_
  unfold greatE at h
  split at h
  · rename_i h1; exact absurd h h1
  · exact h
theorem leastW_zero {n : Int} {L : List Lk} {k : Nat} (hE : EN n L k) (h : (leastW n L k).2 = 0) : (check n L).1 = 0 ∧ (leastW n L k).1.length = n.toNat ∧ ∀ i, i < n.toNat → -1152921504606846976 ≤ (leastW n L k).1.getD i 0 ∧ (leastW n L k).1.getD i 0 ≤ 1152921504606846976 := by
  unfold leastW whereB at h ⊢
  by_cases h1 : opn n L [] k = 0
  · have h1' : ¬ opn n L [] k ≠ 0 := fun hh => hh h1
    rw [if_neg h1'] at h ⊢
    by_cases h2 : (least n L k).any (fun y => y == -free) = true
    · rw [if_pos h2] at h; cases h
    · rw [if_neg h2]
      exact ⟨(opn_ok h1).1, least_len hE.en h1, least_range hE.en h1⟩
  · rw [if_pos h1] at h; exact absurd h h1
end Ch
namespace Go.Proofs.Ytkcchangkhklcaa
open Go.RowKit

theorem ints_of_row {W : World} {sb n : Nat} {f : Nat → Value} {l : List Int} (h : W.rowIs sb 3 n f) (hf : ∀ i, i < n → f i = .int .i64 (l.getD i 0)) (hl : l.length = n) : IntsAt W (some ⟨sb, 0, none⟩) l := by
  intro k hk
  have e : (⟨sb, 0, none⟩ : Addr).add k = ⟨sb, k, none⟩ := by unfold Addr.add; split <;> simp_all
  refine ⟨_, rfl, ?_⟩
  rw [e, h.cell (i := k) (by omega), hf k (by omega)]
/-- the world in a law: the system in its box -/
structure SB (w : World) (n : Int) (a : Option Addr) (m cap : Nat) (L : List Ch.Lk) (W : World) : Prop where
  c0 : W.cell? ⟨w.heap.size, 0, none⟩ = some (.int .i64 n)
  c1 : W.cell? ⟨w.heap.size, 1, none⟩ = some (.slice a m cap)
  l : LksAt W a L
  b : Below w.heap.size w W
theorem SB.below {w W W' : World} {n : Int} {a : Option Addr} {m cap : Nat} {L : List Ch.Lk} (h : SB w n a m cap L W) (hb : Below W.heap.size W W') : SB w n a m cap L W' := ⟨kept1 h.c0 hb, kept1 h.c1 hb, h.l.below hb, h.b.trans (hb.mono h.b.size)⟩
/-- another system in a box of its own -/
structure SX (xb : Nat) (n : Int) (a : Option Addr) (m cap : Nat) (L : List Ch.Lk) (W : World) : Prop where
  c0 : W.cell? ⟨xb, 0, none⟩ = some (.int .i64 n)
  c1 : W.cell? ⟨xb, 1, none⟩ = some (.slice a m cap)
  l : LksAt W a L
theorem SX.below {W W' : World} {xb : Nat} {n : Int} {a : Option Addr} {m cap : Nat} {L : List Ch.Lk} (h : SX xb n a m cap L W) (hb : Below W.heap.size W W') : SX xb n a m cap L W' := ⟨kept1 h.c0 hb, kept1 h.c1 hb, h.l.below hb⟩
theorem keepY {w w' : World} {p q : Addr} {x y : Value} (h : w.cell? p = some x ∧ w.cell? q = some y) (hb : Below w.heap.size w w') : w'.cell? p = some x ∧ w'.cell? q = some y := ⟨kept1 h.1 hb, kept1 h.2 hb⟩
/-- a table -/
structure TBL (N ob S0 : Nat) (D : Nat → Nat → Int) (W : World) : Prop where
  o : W.rowIs ob 32 N (fun u => .slice (some ⟨S0 + u, 0, none⟩) N N)
  r : ∀ u, u < N → W.rowIs (S0 + u) 3 N (fun j => .int .i64 (D u j))
theorem TBL.below {N ob S0 : Nat} {D : Nat → Nat → Int} {W W' : World} (h : TBL N ob S0 D W) (hb : Below W.heap.size W W') : TBL N ob S0 D W' := ⟨Below.row hb h.o, fun u hu => Below.row hb (h.r u hu)⟩
theorem TBL.row {N ob S0 : Nat} {D : Nat → Nat → Int} {W : World} (h : TBL N ob S0 D W) {u : Nat} (hu : u < N) : W.cell? ⟨ob, u, none⟩ = some (.slice (some ⟨S0 + u, 0, none⟩) N N) := h.o.cell hu
theorem TBL.get {N ob S0 : Nat} {D : Nat → Nat → Int} {W : World} (h : TBL N ob S0 D W) {u v : Nat} (hu : u < N) (hv : v < N) : W.cell? ⟨S0 + u, v, none⟩ = some (.int .i64 (D u v)) := (h.r u hu).cell hv

end Go.Proofs.Ytkcchangkhklcaa
