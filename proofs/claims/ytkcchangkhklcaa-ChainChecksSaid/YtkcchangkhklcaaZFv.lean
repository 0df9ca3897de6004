/- The specification's table as numbers: free stands for none; what a round's store leaves. -/
import Derived.Test.YtkcchangkhklcaaZFw
import Derived.Test.YtkcchangkhklcaaZUh
set_option linter.unusedSimpArgs false
set_option linter.unusedVariables false
namespace Ch

def fz (o : Option Int) : Int := o.getD 1152921504606846976
theorem fz_some {z : Int} : fz (some z) = z := rfl
theorem fz_none : fz none = 1152921504606846976 := rfl
theorem fz_start {L : List Lk} {u v : Nat} : fz (fyK L 0 u v) = if u = v then 0 else 1152921504606846976 := by
  unfold fyK
  split <;> rfl
/-- one link more -/
theorem fz_link {D : Nat → Nat → Option Int} {l : Lk} (hm : l.m ≤ 4503599627370496) {a b : Nat} : fz (fyLink D l a b) = if a = l.f.toNat ∧ b = l.t.toNat then min (fz (D l.f.toNat l.t.toNat)) l.m else fz (D a b) := by
  unfold fyLink
  by_cases h : a = l.f.toNat ∧ b = l.t.toNat
  · rw [if_pos h, if_pos h, ← h.1, ← h.2]
    cases D a b with
    | none => rw [fz_none, fz_some, Option.getD_none]; omega
    | some z => rw [fz_some, fz_some, Option.getD_some]
  · rw [if_neg h, if_neg h]
theorem fz_small {n : Nat} (n2 : n ≤ 60) {L : List Lk} (hok : ∀ j, j < L.length → okLk n (L.getD j noLk) = true) {k : Nat} (hk : k ≤ n) (h : ∀ j, j < k → ∃ z, fyR L j j j = some z ∧ 0 ≤ z) (u v : Nat) : -274719577269600256 ≤ fz (fyR L k u v) ∧ (fz (fyR L k u v) = 1152921504606846976 ∨ fz (fyR L k u v) ≤ 274719577269600256) := by
  cases e : fyR L k u v with
  | none => rw [fz_none]; omega
  | some z =>
    have := fyR_small n2 hok hk h e
    rw [fz_some]; omega
/-- in round k row k and column k stay -/
theorem step_col {D : Nat → Nat → Option Int} {k : Nat} (h : D k k = some 0) (u : Nat) : fyStep D k u k = D u k := by
  unfold fyStep
  rw [h]
  cases e : D u k with
  | none => rfl
  | some x => simp
theorem step_row {D : Nat → Nat → Option Int} {k : Nat} (h : D k k = some 0) (v : Nat) : fyStep D k k v = D k v := by
  unfold fyStep
  rw [h]
  cases e : D k v with
  | none => rfl
  | some x => simp
theorem step_skip {D : Nat → Nat → Option Int} {k u v : Nat} (h : D u k = none ∨ D k v = none) : fyStep D k u v = D u v := by
  unfold fyStep
  rcases h with h | h
  · rw [h]
  · rw [h]; cases D u k <;> rfl
theorem fz_free {o : Option Int} (h : o = none ∨ ∃ z, o = some z ∧ z ≤ 274719577269600256) : fz o = 1152921504606846976 ↔ o = none := by
  rcases h with rfl | ⟨z, rfl, hz⟩
  · exact ⟨fun _ => rfl, fun _ => rfl⟩
  · rw [fz_some]
    exact ⟨fun e => by omega, fun e => by cases e⟩
theorem fz_step {D : Nat → Nat → Option Int} {k u v : Nat} {x y : Int} (h1 : D u k = some x) (h2 : D k v = some y) (hxy : x + y ≤ 1152921504606846976) : fz (fyStep D k u v) = min (fz (D u v)) (x + y) := by
  unfold fyStep
  rw [h1, h2]
  cases e : D u v with
  | none => rw [fz_none]; simp only [fz_some]; omega
  | some z => simp only [fz_some]

/-- the table in the midst of round k: rows before u are done, and row u before v -/
def fyM (L : List Lk) (k u v a b : Nat) : Option Int := if a < u ∨ (a = u ∧ b < v) then fyR L (k + 1) a b else fyR L k a b
theorem fyM_start {L : List Lk} {k a b : Nat} : fyM L k 0 0 a b = fyR L k a b := by unfold fyM; rw [if_neg (by omega)]
theorem fyM_row {L : List Lk} {k u n a b : Nat} (hb : b < n) : fyM L k u n a b = fyM L k (u + 1) 0 a b := by
  unfold fyM
  by_cases h : a < u ∨ (a = u ∧ b < n)
  · rw [if_pos h, if_pos (by omega)]
  · rw [if_neg h, if_neg (by omega)]
theorem fyM_end {L : List Lk} {k n a b : Nat} (ha : a < n) : fyM L k n 0 a b = fyR L (k + 1) a b := by unfold fyM; rw [if_pos (by omega)]
theorem fyM_col {L : List Lk} {k u v : Nat} (h : fyR L k k k = some 0) : fyM L k u v u k = fyR L k u k := by
  unfold fyM
  split
  · exact step_col h u
  · rfl
theorem fyM_krow {L : List Lk} {k u v b : Nat} (h : fyR L k k k = some 0) : fyM L k u v k b = fyR L k k b := by
  unfold fyM
  split
  · exact step_row h b
  · rfl
theorem fyM_at {L : List Lk} {k u v : Nat} : fyM L k u v u v = fyR L k u v := by unfold fyM; rw [if_neg (by omega)]
/-- the cell (u, v) becomes that of the next table -/
theorem fyM_next {L : List Lk} {k u v a b : Nat} {z : Int} (hz : fz (fyR L (k + 1) u v) = z) : (if a = u ∧ b = v then z else fz (fyM L k u v a b)) = fz (fyM L k u (v + 1) a b) := by
  by_cases h : a = u ∧ b = v
  · rw [if_pos h, ← hz]
    unfold fyM
    rw [if_pos (by omega), h.1, h.2]
  · rw [if_neg h]
    unfold fyM
    by_cases h2 : a < u ∨ (a = u ∧ b < v)
    · rw [if_pos h2, if_pos (by omega)]
    · rw [if_neg h2, if_neg (by omega)]
theorem fyM_keep {L : List Lk} {k u v a b : Nat} (hz : fyR L (k + 1) u v = fyR L k u v) : fyM L k u v a b = fyM L k u (v + 1) a b := by
  unfold fyM
  by_cases h2 : a < u ∨ (a = u ∧ b < v)
  · rw [if_pos h2, if_pos (by omega)]
  · rw [if_neg h2]
    by_cases h3 : a = u ∧ b = v
    · rw [if_pos (by omega), h3.1, h3.2, hz]
    · rw [if_neg (by omega)]
theorem fyM_keeprow {L : List Lk} {k u a b : Nat} (hz : ∀ v, fyR L (k + 1) u v = fyR L k u v) : fyM L k u 0 a b = fyM L k (u + 1) 0 a b := by
  unfold fyM
  by_cases h2 : a < u
  · rw [if_pos (by omega), if_pos (by omega)]
  · rw [if_neg (by omega)]
    by_cases h3 : a = u
    · rw [if_pos (by omega), h3, hz]
    · rw [if_neg (by omega)]
/-- the last table -/
def fyT (n : Nat) (L : List Lk) (u v : Nat) : Int := fz (fyR L n u v)
theorem fyT_tb {n : Int} {L : List Lk} {k : Nat} (hE : EN n L k) (h : opn n L [] k = 0) {u v : Nat} (hu : u < n.toNat) (hv : v < n.toNat) : fyT n.toNat L u v = tb n L k u v := by
  obtain ⟨c1, _, c3⟩ := opn_ok h
  obtain ⟨n1, n2, _, hok⟩ := check_ok c1
  have hok' : ∀ j, j < L.length → okLk n.toNat (L.getD j noLk) = true := by rw [show ((n.toNat : Nat) : Int) = n by omega]; exact hok
  have hs := hE.cons c1 c3
  have hd := (fyR_ok hok').2 hs
  obtain ⟨b1, _, _⟩ := enough_bt (hE.en c1) c3 hv
  have := fyR_bt (by omega) (by omega) hok' hd hv b1 u hu
  unfold tb
  rw [this]
  rfl
end Ch
