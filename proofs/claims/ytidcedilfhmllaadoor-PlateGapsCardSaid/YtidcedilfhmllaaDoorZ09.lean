/- What the claims of layer 3 share, part 9: several texts one behind the other. -/
import Derived.ProofKit
set_option linter.unusedSimpArgs false
set_option linter.unusedVariables false
/- Package chain, mirrored: each of its functions as a plain function on lists, in its own steps. A search that has no bound of its own takes fuel. -/
namespace Ch

/-- a link -/
structure Lk where
  f : Int
  t : Int
  m : Int

def free : Int := 1152921504606846976
def top : Int := 4503599627370496
def noLk : Lk := ⟨0, 0, 0⟩

def isIx (i c : Int) : Bool := decide (0 ≤ i) && decide (i < c)
def okLk (n : Int) (l : Lk) : Bool := isIx l.f n && isIx l.t n && l.f != l.t && decide (-top ≤ l.m) && decide (l.m ≤ top)
def sameLk (a b : Lk) : Bool := a.f == b.f && a.t == b.t && a.m == b.m

/-- the first link that is not valid, from the k-th on -/
def bad (n : Int) : List Lk → Nat → Option Nat
  | [], _ => none
  | l :: r, k => if okLk n l then bad n r (k + 1) else some k

/-- Check: the error, the index -/
def check (n : Int) (L : List Lk) : Int × Int :=
  if n < 1 ∨ 60 < n then (1, -1) else if 300 < L.length then (2, -1) else
  match bad n L 0 with
  | some k => (1, k)
  | none => (0, -1)

theorem drop_at {L : List Lk} {k : Nat} (h : k < L.length) : L.drop k = L.getD k noLk :: L.drop (k + 1) := by
  rw [List.drop_eq_getElem_cons h, List.getD, List.getElem?_eq_getElem h]; rfl
theorem bad_step {n : Int} {L : List Lk} {k : Nat} (h : k < L.length) : bad n (L.drop k) k = if okLk n (L.getD k noLk) then bad n (L.drop (k + 1)) (k + 1) else some k := by
  rw [drop_at h, bad]
theorem check_mid {n : Int} {L : List Lk} (h0 : ¬ n < 1) (h1 : ¬ 60 < n) (h2 : ¬ 300 < L.length) : check n L = match bad n L 0 with | some k => (1, (k : Int)) | none => (0, -1) := by
  unfold check
  rw [if_neg (by omega), if_neg h2]
theorem check_n {n : Int} {L : List Lk} (h : n < 1 ∨ 60 < n) : check n L = (1, -1) := by unfold check; rw [if_pos h]
theorem check_l {n : Int} {L : List Lk} (h : ¬ (n < 1 ∨ 60 < n)) (h2 : 300 < L.length) : check n L = (2, -1) := by unfold check; rw [if_neg h, if_pos h2]

theorem bad_none {n : Int} : ∀ {L : List Lk} {k : Nat}, bad n L k = none → ∀ j, j < L.length → okLk n (L.getD j noLk) = true
  | [], _, _, j, hj => by simp at hj
  | l :: r, k, h, j, hj => by
    rw [bad] at h
    split at h
    · rename_i h1
      cases j with
      | zero => exact h1
      | succ j => exact bad_none h j (by simpa using hj)
    · cases h
theorem check_ok {n : Int} {L : List Lk} (h : (check n L).1 = 0) : 1 ≤ n ∧ n ≤ 60 ∧ L.length ≤ 300 ∧ ∀ j, j < L.length → okLk n (L.getD j noLk) = true := by
  unfold check at h
  split at h
  · simp at h
  · split at h
    · simp at h
    · split at h
      · simp at h
      · rename_i h1 h2 _ h3
        exact ⟨by omega, by omega, by omega, bad_none h3⟩
theorem okLk_spec {n : Int} {l : Lk} (h : okLk n l = true) : 0 ≤ l.f ∧ l.f < n ∧ 0 ≤ l.t ∧ l.t < n ∧ l.f ≠ l.t ∧ -4503599627370496 ≤ l.m ∧ l.m ≤ 4503599627370496 := by
  unfold okLk isIx top at h
  simp at h
  omega

/-- checkIndices -/
def ixErr (m : Nat) (l : List Int) : Int := if 80 < l.length then 2 else if l.all (fun i => isIx i m) then 0 else 1
theorem all_at {p : Int → Bool} {l : List Int} {k : Nat} (h : k < l.length) : (l.drop k).all p = (p (l.getD k 0) && (l.drop (k + 1)).all p) := by
  rw [List.drop_eq_getElem_cons h, List.all_cons, List.getD, List.getElem?_eq_getElem h]; rfl

/-- a value beyond all sums -/
def far (v : Int) : Bool := decide (v < -free) || decide (free < v)
theorem any_at {p : Int → Bool} {l : List Int} {k : Nat} (h : k < l.length) : (l.drop k).any p = (p (l.getD k 0) || (l.drop (k + 1)).any p) := by
  rw [List.drop_eq_getElem_cons h, List.any_cons, List.getD, List.getElem?_eq_getElem h]; rfl
theorem any_far {l : List Int} (h : l.any far = false) : ∀ k, k < l.length → -1152921504606846976 ≤ l.getD k 0 ∧ l.getD k 0 ≤ 1152921504606846976 := by
  intro k hk
  rw [List.any_eq_false] at h
  have := h (l.getD k 0) (by rw [List.getD, List.getElem?_eq_getElem hk]; exact List.getElem_mem hk)
  generalize l.getD k 0 = z at this ⊢
  unfold far free at this
  simp at this
  omega
def solves : List Lk → List Int → Bool
  | [], _ => true
  | l :: r, x => if x.getD l.f.toNat 0 + l.m < x.getD l.t.toNat 0 then false else solves r x
theorem solves_at {L : List Lk} {x : List Int} {k : Nat} (h : k < L.length) : solves (L.drop k) x = if x.getD (L.getD k noLk).f.toNat 0 + (L.getD k noLk).m < x.getD (L.getD k noLk).t.toNat 0 then false else solves (L.drop (k + 1)) x := by
  rw [drop_at h, solves]
/-- Fits -/
def fits (n : Int) (L : List Lk) (x : List Int) : Bool × Int :=
  if (check n L).1 ≠ 0 then (false, (check n L).1) else
  if (x.length : Int) ≠ n ∨ x.any far = true then (false, 1) else
  if solves L x then (x.getD 0 0 == 0, 0) else (false, 0)

/-- the indices of the links into a node -/
def into (L : List Lk) (v : Nat) : List Nat := (List.range L.length).filter fun i => (L.getD i noLk).t == (v : Int)
/-- .. of the first k links -/
def intoK (L : List Lk) (k v : Nat) : List Nat := (List.range k).filter fun i => (L.getD i noLk).t == (v : Int)
theorem intoK_all (L : List Lk) (v : Nat) : intoK L L.length v = into L v := rfl
theorem intoK_zero (L : List Lk) (v : Nat) : intoK L 0 v = [] := rfl
theorem intoK_hit {L : List Lk} {k v : Nat} (h : (L.getD k noLk).t = (v : Int)) : intoK L (k + 1) v = intoK L k v ++ [k] := by
  unfold intoK
  rw [List.range_succ, List.filter_append]
  congr 1
  rw [List.filter_cons, h]
  simp
theorem intoK_miss {L : List Lk} {k v : Nat} (h : (L.getD k noLk).t ≠ (v : Int)) : intoK L (k + 1) v = intoK L k v := by
  unfold intoK
  rw [List.range_succ, List.filter_append]
  have : [k].filter (fun i => (L.getD i noLk).t == (v : Int)) = [] := by
    rw [List.filter_cons, show ((L.getD k noLk).t == (v : Int)) = false by rw [beq_eq_false_iff_ne]; exact h]
    simp
  rw [this, List.append_nil]
theorem intoK_len (L : List Lk) (k v : Nat) : (intoK L k v).length ≤ k := by
  unfold intoK
  have := List.length_filter_le (fun i => (L.getD i noLk).t == (v : Int)) (List.range k)
  simpa using this

/-- the links into a node that are not left out -/
def linksInto (L : List Lk) (drop : List Bool) (v : Nat) : List Lk := ((into L v).filter fun i => !drop.getD i false).map fun i => L.getD i noLk

/-- what settle holds: sums, who waits, links, the queue -/
structure St where
  s : List Int
  w : List Bool
  c : List Int
  q : List Nat

/-- a link in front of the chains of the node u; none: it has as many links as there are nodes -/
def relax (n : Nat) (u : Nat) (l : Lk) (x : St) : Option St :=
  if x.s.getD l.f.toNat 0 ≤ x.s.getD u 0 + l.m then some x else
  if x.c.getD u 0 + 1 = (n : Int) then none else
  if x.w.getD l.f.toNat false then some { x with s := x.s.set l.f.toNat (x.s.getD u 0 + l.m), c := x.c.set l.f.toNat (x.c.getD u 0 + 1) } else
  some ⟨x.s.set l.f.toNat (x.s.getD u 0 + l.m), x.w.set l.f.toNat true, x.c.set l.f.toNat (x.c.getD u 0 + 1), x.q ++ [l.f.toNat]⟩

def relaxAll (n u : Nat) : List Lk → St → Option St
  | [], x => some x
  | l :: r, x => match relax n u l x with
    | none => none
    | some y => relaxAll n u r y

/-- settle: none: the fuel was too little; some none: it gave up -/
def settleGo (n : Nat) (L : List Lk) (drop : List Bool) : Nat → St → Option (Option (List Int))
  | 0, _ => none
  | k + 1, x => match x.q with
    | [] => some (some x.s)
    | u :: q => match relaxAll n u (linksInto L drop u) { x with w := x.w.set u false, q := q } with
      | none => some none
      | some y => settleGo n L drop k y

/-- how settle begins: the nodes whose sum is known wait -/
def settle0 (s : List Int) : St :=
  ⟨s, (List.range 60).map fun v => decide (v < s.length) && s.getD v 0 != free, List.replicate 60 0, (List.range s.length).filter fun v => s.getD v 0 != free⟩
def settle (n : Nat) (L : List Lk) (drop : List Bool) (k : Nat) (s : List Int) : Option (Option (List Int)) := settleGo n L drop k (settle0 s)

def levels (n : Nat) (L : List Lk) (drop : List Bool) (k : Nat) : Option (Option (List Int)) := settle n L drop k (List.replicate n 0)
def unbound (n : Nat) : List Int := List.replicate n free
def boundsTo (n : Nat) (L : List Lk) (drop : List Bool) (k : Nat) (v : Nat) : Option (Option (List Int)) := settle n L drop k ((unbound n).set v 0)

/-- one link more in front -/
def lengthen (n : Nat) (L : List Lk) (drop : List Bool) (s : List Int) : List Int :=
  (List.range n).foldl (fun acc v => if s.getD v 0 = free then acc else (linksInto L drop v).foldl (fun a l => a.set l.f.toNat (min (a.getD l.f.toNat 0) (s.getD v 0 + l.m))) acc) (unbound n)
def sumsTo (n : Nat) (L : List Lk) (drop : List Bool) (v : Nat) : Nat → List Int
  | 0 => (unbound n).set v 0
  | k + 1 => lengthen n L drop (sumsTo n L drop v k)

/-- the first index from 'at' on of a link from a node that can begin the rest -/
def firstLk (L : List Lk) (rest : List Int) (u : Nat) (most : Int) : Option Nat := (List.range L.length).find? fun i => (L.getD i noLk).f == (u : Int) && decide (rest.getD (L.getD i noLk).t.toNat 0 ≤ most - (L.getD i noLk).m)
def firstChain (n : Nat) (L : List Lk) (drop : List Bool) (v : Nat) : Nat → Nat → Int → List Nat
  | 0, _, _ => []
  | k + 1, u, most => match firstLk L (sumsTo n L drop v k) u most with
    | none => []
    | some i => i :: firstChain n L drop v k (L.getD i noLk).t.toNat (most - (L.getD i noLk).m)

/-- the sum of a chain, and whether it is one from u to v -/
def follow (L : List Lk) (v : Int) : List Int → Int → Int → Int × Bool
  | [], u, sum => (sum, u == v)
  | i :: r, u, sum => if (L.getD i.toNat noLk).f != u then (0, false) else follow L v r (L.getD i.toNat noLk).t (sum + (L.getD i.toNat noLk).m)

theorem follow_at {L : List Lk} {v u sum : Int} {l : List Int} {k : Nat} (h : k < l.length) : follow L v (l.drop k) u sum = if (L.getD (l.getD k 0).toNat noLk).f != u then (0, false) else follow L v (l.drop (k + 1)) (L.getD (l.getD k 0).toNat noLk).t (sum + (L.getD (l.getD k 0).toNat noLk).m) := by
  have e : l[k] = l.getD k 0 := by rw [List.getD, List.getElem?_eq_getElem h]; rfl
  rw [List.drop_eq_getElem_cons h, follow, e]

/-- where a list of indices starts -/
def start (L : List Lk) (l : List Int) : Int := (L.getD (l.getD 0 0).toNat noLk).f
/-- CheckClash -/
def checkClash (n : Int) (L : List Lk) (l : List Int) : Int :=
  if (check n L).1 ≠ 0 then (check n L).1 else if ixErr L.length l ≠ 0 then ixErr L.length l else if l = [] then 8 else
  if (follow L (start L l) l (start L l) 0).2 = true ∧ (follow L (start L l) l (start L l) 0).1 < 0 then 0 else 8
/-- CheckChain -/
def checkChain (n : Int) (L : List Lk) (u v : Int) (l : List Int) : Int × Int :=
  if (check n L).1 ≠ 0 then (0, (check n L).1) else if ¬ (isIx u n = true ∧ isIx v n = true) then (0, 1) else if ixErr L.length l ≠ 0 then (0, ixErr L.length l) else
  if (follow L v l u 0).2 = true then ((follow L v l u 0).1, 0) else (0, 8)
theorem ix_ok {m : Nat} {l : List Int} (h : ixErr m l = 0) : l.length ≤ 80 ∧ ∀ k, k < l.length → 0 ≤ l.getD k 0 ∧ l.getD k 0 < (m : Int) := by
  unfold ixErr at h
  split at h
  · simp at h
  · split at h
    · rename_i h1 h2
      refine ⟨by omega, fun k hk => ?_⟩
      rw [List.all_eq_true] at h2
      have := h2 (l.getD k 0) (by rw [List.getD, List.getElem?_eq_getElem hk]; exact List.getElem_mem hk)
      unfold isIx at this
      simpa using this
    · simp at h

def turned (L : List Lk) : List Lk := L.map fun l => ⟨l.t, l.f, l.m⟩
def hasTwin (L : List Lk) (drop : List Bool) (w : Nat) : Bool := (List.range L.length).any fun i => i != w && !drop.getD i false && sameLk (L.getD i noLk) (L.getD w noLk)

/-! ### the chapter's examples -/
def exL : List Lk := [⟨0, 1, 5⟩, ⟨1, 2, 3⟩, ⟨0, 2, 9⟩, ⟨2, 0, -6⟩, ⟨2, 1, -2⟩]
def no5 : List Bool := List.replicate 5 false
theorem ex_check : check 4 exL = (0, -1) := by decide
theorem ex_levels : levels 4 exL no5 40 = some (some [0, -3, -6, 0]) := by decide +kernel
theorem ex_to2 : boundsTo 4 exL no5 40 2 = some (some [8, 3, 0, free]) := by decide +kernel
theorem ex_to0 : boundsTo 4 exL no5 40 0 = some (some [0, -3, -6, free]) := by decide +kernel
end Ch
