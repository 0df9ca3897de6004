/- What the claims of layer 3 share, part 3: several texts one behind the other. -/
set_option linter.unusedSimpArgs false
set_option linter.unusedVariables false
/- Layer 3, plain: the eight turns of a square, a group that acts on its cells. -/
namespace Pl

/-- the row and the column to which a turn takes a cell -/
def tkRow (t r c last : Nat) : Nat := match t with
  | 0 => r | 1 => c | 2 => last - r | 3 => last - c | 4 => r | 5 => c | 6 => last - r | _ => last - c
def tkCol (t r c last : Nat) : Nat := match t with
  | 0 => c | 1 => last - r | 2 => last - c | 3 => r | 4 => last - c | 5 => r | 6 => c | _ => last - r
/-- the cell to which a turn takes a cell -/
def tk (side t x : Nat) : Nat := tkRow t (x / side) (x % side) (side - 1) * side + tkCol t (x / side) (x % side) (side - 1)
/-- one turn, and then another one -/
def cmp (a b : Nat) : Nat := (if 4 ≤ a then (a + 8 - b) % 4 else (a + b) % 4) + (if decide (4 ≤ a) = decide (4 ≤ b) then 0 else 4)
def inv (a : Nat) : Nat := if 4 ≤ a then a else (4 - a) % 4

theorem cmp_lt {a b : Nat} (_ : a < 8) (_ : b < 8) : cmp a b < 8 := by
  unfold cmp
  have h1 := Nat.mod_lt (a + 8 - b) (show 4 > 0 by omega)
  have h2 := Nat.mod_lt (a + b) (show 4 > 0 by omega)
  split <;> split <;> omega
theorem inv_lt {a : Nat} (_ : a < 8) : inv a < 8 := by unfold inv; split <;> omega
theorem group_all : (List.range 8).all (fun a => cmp a 0 == a && cmp 0 a == a && cmp a (inv a) == 0 && cmp (inv a) a == 0 && inv (inv a) == a && (List.range 8).all fun b => inv (cmp a b) == cmp (inv b) (inv a) && (List.range 8).all fun c => cmp (cmp a b) c == cmp a (cmp b c)) = true := by decide +kernel
theorem act_all : (List.range 7).all (fun s => (List.range (s * s)).all fun x => tk s 0 x == x && (List.range 8).all fun a => decide (tk s a x < s * s) && (List.range 8).all fun b => tk s (cmp a b) x == tk s b (tk s a x)) = true := by decide +kernel

theorem range_all {n : Nat} {p : Nat → Bool} (h : (List.range n).all p = true) {i : Nat} (hi : i < n) : p i = true := List.all_eq_true.1 h i (List.mem_range.2 hi)
structure Gp (a : Nat) : Prop where
  one : cmp a 0 = a
  one' : cmp 0 a = a
  inv : cmp a (inv a) = 0
  inv' : cmp (Pl.inv a) a = 0
  inv2 : Pl.inv (Pl.inv a) = a
theorem gp {a : Nat} (h : a < 8) : Gp a := by
  have := range_all group_all h
  simp only [Bool.and_eq_true, beq_iff_eq] at this
  exact ⟨this.1.1.1.1.1, this.1.1.1.1.2, this.1.1.1.2, this.1.1.2, this.1.2⟩
theorem cmp_assoc {a b c : Nat} (ha : a < 8) (hb : b < 8) (hc : c < 8) : cmp (cmp a b) c = cmp a (cmp b c) := by
  have := range_all group_all ha
  rw [Bool.and_eq_true] at this
  have := range_all this.2 hb
  rw [Bool.and_eq_true] at this
  exact beq_iff_eq.1 (range_all this.2 hc)
theorem inv_cmp {a b : Nat} (ha : a < 8) (hb : b < 8) : inv (cmp a b) = cmp (inv b) (inv a) := by
  have := range_all group_all ha
  rw [Bool.and_eq_true] at this
  have := range_all this.2 hb
  rw [Bool.and_eq_true] at this
  exact beq_iff_eq.1 this.1
theorem act {s x : Nat} (hs : s ≤ 6) (hx : x < s * s) : tk s 0 x = x ∧ ∀ a, a < 8 → tk s a x < s * s ∧ ∀ b, b < 8 → tk s (cmp a b) x = tk s b (tk s a x) := by
  have := range_all (range_all act_all (show s < 7 by omega)) hx
  rw [Bool.and_eq_true] at this
  refine ⟨beq_iff_eq.1 this.1, fun a ha => ?_⟩
  have := range_all this.2 ha
  rw [Bool.and_eq_true] at this
  exact ⟨of_decide_eq_true this.1, fun b hb => beq_iff_eq.1 (range_all this.2 hb)⟩
theorem tk_lt {s x a : Nat} (hs : s ≤ 6) (hx : x < s * s) (ha : a < 8) : tk s a x < s * s := ((act hs hx).2 a ha).1
theorem tk_cmp {s x a b : Nat} (hs : s ≤ 6) (hx : x < s * s) (ha : a < 8) (hb : b < 8) : tk s (cmp a b) x = tk s b (tk s a x) := ((act hs hx).2 a ha).2 b hb
theorem tk_inv {s x a : Nat} (hs : s ≤ 6) (hx : x < s * s) (ha : a < 8) : tk s (inv a) (tk s a x) = x := by
  rw [← tk_cmp hs hx ha (inv_lt ha), (gp ha).inv, (act hs hx).1]
theorem tk_inv' {s x a : Nat} (hs : s ≤ 6) (hx : x < s * s) (ha : a < 8) : tk s a (tk s (inv a) x) = x := by
  rw [← tk_cmp hs hx (inv_lt ha) ha, (gp ha).inv', (act hs hx).1]

/-- the specification's way to turn -/
def spin : Nat → Bool → Nat → Nat → Nat → Nat × Nat
  | 0, _, r, c, _ => (r, c)
  | k + 1, false, r, c, last => spin k false c (last - r) last
  | k + 1, true, r, c, last => spin k true (last - c) r last
def tkR (side t x : Nat) : Nat :=
  let p := spin (t % 4) (decide (4 ≤ t)) (x / side) (if 4 ≤ t then side - 1 - x % side else x % side) (side - 1)
  p.1 * side + p.2
theorem turned_all : (List.range 7).all (fun s => (List.range (s * s)).all fun x => (List.range 8).all fun t => tkR s t x == tk s t x) = true := by decide +kernel
theorem turned_eq {s x t : Nat} (hs : s ≤ 6) (hx : x < s * s) (ht : t < 8) : tkR s t x = tk s t x := beq_iff_eq.1 (range_all (range_all (range_all turned_all (show s < 7 by omega)) hx) ht)
/-- the cell 1 of a square of side 4 goes to eight cells -/
def aft (a b : Nat) : Nat := ((List.range 8).find? fun t => tk 4 t 1 == tk 4 b (tk 4 a 1)).getD 0
def bck (a : Nat) : Nat := ((List.range 8).find? fun t => aft a t == 0).getD 0
theorem aft_all : (List.range 8).all (fun a => bck a == inv a && (List.range 8).all fun b => aft a b == cmp a b) = true := by decide +kernel
theorem aft_eq {a b : Nat} (ha : a < 8) (hb : b < 8) : aft a b = cmp a b := by
  have := range_all aft_all ha
  rw [Bool.and_eq_true] at this
  exact beq_iff_eq.1 (range_all this.2 hb)
theorem bck_eq {a : Nat} (ha : a < 8) : bck a = inv a := by
  have := range_all aft_all ha
  rw [Bool.and_eq_true] at this
  exact beq_iff_eq.1 this.1
end Pl

/- Layer 3, plain: going through states in the order of their walks finds all states, each by a shortest walk. -/
namespace Pl
variable {α : Type}

/-- the state behind a walk -/
def runs (f : α → Int → Option α) : α → List Int → Option α
  | a, [] => some a
  | a, t :: r => (f a t).bind fun b => runs f b r
theorem runs_snoc (f : α → Int → Option α) : ∀ (w : List Int) (a : α) (t : Int), runs f a (w ++ [t]) = (runs f a w).bind fun b => f b t
  | [], a, t => by
    show (f a t).bind (fun b => some b) = f a t
    cases f a t <;> rfl
  | s :: r, a, t => by
    show (f a s).bind (fun b => runs f b (r ++ [t])) = ((f a s).bind fun b => runs f b r).bind fun b => f b t
    cases h : f a s with
    | none => rfl
    | some b => exact runs_snoc f r b t
theorem runs_append (f : α → Int → Option α) : ∀ (v w : List Int) (a : α), runs f a (v ++ w) = (runs f a v).bind fun b => runs f b w
  | [], w, a => rfl
  | s :: r, w, a => by
    show (f a s).bind (fun b => runs f b (r ++ w)) = ((f a s).bind fun b => runs f b r).bind fun b => runs f b w
    cases h : f a s with
    | none => rfl
    | some b => exact runs_append f r w b
/-- one step tried from a state -/
def addS [DecidableEq α] (f : α → Int → Option α) (x : α × List Int) (acc : List (α × List Int)) (t : Int) : List (α × List Int) :=
  match f x.1 t with
  | some y => if y ∈ acc.map Prod.fst then acc else acc ++ [(y, x.2 ++ [t])]
  | none => acc
def bfs [DecidableEq α] (f : α → Int → Option α) (S : List Int) : Nat → Nat → List (α × List Int) → List (α × List Int)
  | 0, _, acc => acc
  | k + 1, i, acc => match acc[i]? with
    | none => acc
    | some x => bfs f S k (i + 1) (S.foldl (addS f x) acc)

structure Bf (f : α → Int → Option α) (S : List Int) (s0 : α) (i : Nat) (acc : List (α × List Int)) : Prop where
  nd : (acc.map Prod.fst).Nodup
  run : ∀ e ∈ acc, runs f s0 e.2 = some e.1 ∧ ∀ t ∈ e.2, t ∈ S
  hd : acc[0]? = some (s0, [])
  cl : ∀ (j : Nat) (e : α × List Int), j < i → acc[j]? = some e → ∀ t ∈ S, ∀ y, f e.1 t = some y → ∃ w, (y, w) ∈ acc ∧ w.length ≤ e.2.length + 1
  so : ∀ (j k : Nat) (a b : α × List Int), j ≤ k → acc[j]? = some a → acc[k]? = some b → a.2.length ≤ b.2.length
  bd : ∀ x, acc[i]? = some x → ∀ e ∈ acc, e.2.length ≤ x.2.length + 1

theorem mem_at {β : Type} {l : List β} {i : Nat} {x : β} (h : l[i]? = some x) : x ∈ l := List.mem_of_getElem? h

theorem Bf.add [DecidableEq α] {f : α → Int → Option α} {S : List Int} {s0 : α} {i : Nat} {acc : List (α × List Int)} (h : Bf f S s0 i acc) {x : α × List Int} (hx : acc[i]? = some x) {t : Int} (ht : t ∈ S) :
    Bf f S s0 i (addS f x acc t) ∧ (addS f x acc t)[i]? = some x ∧ (∀ y, f x.1 t = some y → ∃ w, (y, w) ∈ addS f x acc t ∧ w.length ≤ x.2.length + 1) ∧ ∀ e ∈ acc, e ∈ addS f x acc t := by
  unfold addS
  cases hf : f x.1 t with
  | none =>
    refine ⟨h, hx, ?_, fun e he => he⟩
    intro y hy
    cases hy
  | some y =>
    simp only
    by_cases hy : y ∈ acc.map Prod.fst
    · rw [if_pos hy]
      refine ⟨h, hx, fun z hz => ?_, fun e he => he⟩
      simp only [Option.some.injEq] at hz
      subst hz
      obtain ⟨⟨y', w⟩, he, rfl⟩ := List.mem_map.1 hy
      exact ⟨w, he, h.bd x hx _ he⟩
    · rw [if_neg hy]
      have hil : i < acc.length := by
        rcases Nat.lt_or_ge i acc.length with hl | hl
        · exact hl
        · rw [List.getElem?_eq_none hl] at hx; cases hx
      have old : ∀ (j : Nat) (e : α × List Int), (acc ++ [(y, x.2 ++ [t])])[j]? = some e → acc[j]? = some e ∨ (j = acc.length ∧ e = (y, x.2 ++ [t])) := by
        intro j e he
        rcases Nat.lt_or_ge j acc.length with hl | hl
        · rw [List.getElem?_append_left hl] at he; exact Or.inl he
        · rw [List.getElem?_append_right hl] at he
          cases hj : j - acc.length with
          | zero => rw [hj] at he; simp only [List.getElem?_cons_zero, Option.some.injEq] at he; exact Or.inr ⟨by omega, he.symm⟩
          | succ q => rw [hj] at he; simp at he
      have sub : ∀ e ∈ acc, e ∈ acc ++ [(y, x.2 ++ [t])] := fun e he => List.mem_append_left _ he
      obtain ⟨hr, hs⟩ := h.run x (mem_at hx)
      refine ⟨⟨?_, ?_, ?_, ?_, ?_, ?_⟩, ?_, ?_, sub⟩
      · rw [List.map_append, List.nodup_append]
        refine ⟨h.nd, by simp, fun a ha b hb e => ?_⟩
        simp only [List.map_cons, List.map_nil, List.mem_singleton] at hb
        rw [← e] at hb
        rw [hb] at ha
        exact hy ha
      · intro e he
        rcases List.mem_append.1 he with he | he
        · exact h.run e he
        · simp only [List.mem_singleton] at he
          subst he
          refine ⟨by rw [runs_snoc, hr]; exact hf, fun u hu => ?_⟩
          rcases List.mem_append.1 hu with hu | hu
          · exact hs u hu
          · simp only [List.mem_singleton] at hu
            subst hu
            exact ht
      · rw [List.getElem?_append_left (by omega)]; exact h.hd
      · intro j e hj he u hu z hz
        rcases old j e he with he | ⟨rfl, _⟩
        · obtain ⟨w, h1, h2⟩ := h.cl j e hj he u hu z hz
          exact ⟨w, sub _ h1, h2⟩
        · omega
      · intro j k a b hjk ha hb
        rcases old j a ha with ha | ⟨rfl, rfl⟩
        · rcases old k b hb with hb | ⟨rfl, rfl⟩
          · exact h.so j k a b hjk ha hb
          · have := h.bd x hx a (mem_at ha)
            simpa using this
        · rcases old k b hb with hb | ⟨rfl, rfl⟩
          · rw [List.getElem?_eq_none hjk] at hb; cases hb
          · exact Nat.le_refl _
      · intro x' hx' e he
        rw [List.getElem?_append_left hil, hx] at hx'
        simp only [Option.some.injEq] at hx'
        subst hx'
        rcases List.mem_append.1 he with he | he
        · exact h.bd x hx e he
        · simp only [List.mem_singleton] at he
          subst he
          simp
      · rw [List.getElem?_append_left hil]; exact hx
      · intro z hz
        simp only [Option.some.injEq] at hz
        subst hz
        exact ⟨x.2 ++ [t], List.mem_append_right _ (by simp), by simp⟩
theorem Bf.fold [DecidableEq α] {f : α → Int → Option α} {S : List Int} {s0 : α} {i : Nat} {x : α × List Int} : ∀ (P : List Int) (acc : List (α × List Int)), (∀ t ∈ P, t ∈ S) → Bf f S s0 i acc → acc[i]? = some x →
    Bf f S s0 i (P.foldl (addS f x) acc) ∧ (P.foldl (addS f x) acc)[i]? = some x ∧ (∀ t ∈ P, ∀ y, f x.1 t = some y → ∃ w, (y, w) ∈ P.foldl (addS f x) acc ∧ w.length ≤ x.2.length + 1) ∧ ∀ e ∈ acc, e ∈ P.foldl (addS f x) acc
  | [], acc, _, h, hx => ⟨h, hx, fun t ht => (List.not_mem_nil ht).elim, fun e he => he⟩
  | t :: P, acc, hP, h, hx => by
    obtain ⟨h1, h2, h3, h4⟩ := h.add hx (hP t List.mem_cons_self)
    obtain ⟨g1, g2, g3, g4⟩ := Bf.fold P (addS f x acc t) (fun u hu => hP u (List.mem_cons_of_mem _ hu)) h1 h2
    refine ⟨g1, g2, fun u hu y hy => ?_, fun e he => g4 e (h4 e he)⟩
    rcases List.mem_cons.1 hu with rfl | hu
    · obtain ⟨w, k1, k2⟩ := h3 y hy
      exact ⟨w, g4 _ k1, k2⟩
    · exact g3 u hu y hy
theorem Bf.next [DecidableEq α] {f : α → Int → Option α} {S : List Int} {s0 : α} {i : Nat} {acc : List (α × List Int)} (h : Bf f S s0 i acc) {x : α × List Int} (hx : acc[i]? = some x) : Bf f S s0 (i + 1) (S.foldl (addS f x) acc) := by
  obtain ⟨h1, h2, h3, _⟩ := Bf.fold S acc (fun _ ht => ht) h hx
  refine ⟨h1.nd, h1.run, h1.hd, fun j e hj he t ht y hy => ?_, h1.so, fun x' hx' e he => ?_⟩
  · rcases Nat.lt_or_ge j i with hl | hl
    · exact h1.cl j e hl he t ht y hy
    · obtain rfl : j = i := by omega
      rw [h2] at he
      simp only [Option.some.injEq] at he
      subst he
      exact h3 t ht y hy
  · have g1 := h1.bd x h2 e he
    have g2 := h1.so i (i + 1) x x' (by omega) h2 hx'
    omega
/-- at most as many states as there are -/
theorem nodup_le [DecidableEq α] {U : List α} : ∀ {l : List α}, l.Nodup → (∀ a ∈ l, a ∈ U) → l.length ≤ U.length := by
  intro l
  induction l generalizing U with
  | nil => intro _ _; simp
  | cons a l ih =>
    intro hn hu
    rw [List.nodup_cons] at hn
    have h1 := ih (U := U.erase a) hn.2 (fun b hb => by
      have hab : b ≠ a := fun e => hn.1 (e ▸ hb)
      exact (List.mem_erase_of_ne hab).2 (hu b (List.mem_cons_of_mem _ hb)))
    have h2 := List.length_erase_of_mem (hu a List.mem_cons_self)
    have h3 : 0 < U.length := List.length_pos_of_mem (hu a List.mem_cons_self)
    simp only [List.length_cons]
    omega
theorem bfs_ends [DecidableEq α] {f : α → Int → Option α} {S : List Int} {s0 : α} {U : List α} (hU : ∀ w y, (∀ t ∈ w, t ∈ S) → runs f s0 w = some y → y ∈ U) : ∀ (k i : Nat) (acc : List (α × List Int)), Bf f S s0 i acc → U.length < k + i → Bf f S s0 (bfs f S k i acc).length (bfs f S k i acc)
  | 0, i, acc, h, hk => by
    have hl : acc.length ≤ U.length := by
      have := nodup_le h.nd (U := U) (fun a ha => by
        obtain ⟨e, he, rfl⟩ := List.mem_map.1 ha
        obtain ⟨h1, h2⟩ := h.run e he
        exact hU _ _ h2 h1)
      simpa using this
    show Bf f S s0 acc.length acc
    exact ⟨h.nd, h.run, h.hd, fun j e hj => h.cl j e (by omega), h.so, fun x hx => by rw [List.getElem?_eq_none (Nat.le_refl _)] at hx; cases hx⟩
  | k + 1, i, acc, h, hk => by
    unfold bfs
    cases hx : acc[i]? with
    | none =>
      simp only
      have hl : acc.length ≤ i := by
        rcases Nat.lt_or_ge i acc.length with hl | hl
        · rw [List.getElem?_eq_getElem hl] at hx; cases hx
        · exact hl
      exact ⟨h.nd, h.run, h.hd, fun j e hj => h.cl j e (by omega), h.so, fun x hx => by rw [List.getElem?_eq_none (Nat.le_refl _)] at hx; cases hx⟩
    | some x => exact bfs_ends hU k (i + 1) _ (h.next hx) (by omega)
theorem bf_start (f : α → Int → Option α) (S : List Int) (s0 : α) : Bf f S s0 0 [(s0, [])] := by
  refine ⟨by simp, fun e he => ?_, rfl, fun j e hj => by omega, fun j k a b _ ha hb => ?_, fun x hx e he => ?_⟩
  · simp only [List.mem_singleton] at he
    subst he
    exact ⟨rfl, fun t ht => (List.not_mem_nil ht).elim⟩
  · have h1 := mem_at ha
    have h2 := mem_at hb
    simp only [List.mem_singleton] at h1 h2
    rw [h1, h2]
    exact Nat.le_refl _
  · simp only [List.mem_singleton] at he
    subst he
    simp
/-- all states, each by a shortest walk -/
theorem bfs_all {f : α → Int → Option α} {S : List Int} {s0 : α} {R : List (α × List Int)} (h : Bf f S s0 R.length R) : ∀ (k : Nat) (w : List Int) (y : α), w.length = k → (∀ t ∈ w, t ∈ S) → runs f s0 w = some y → ∃ v, (y, v) ∈ R ∧ v.length ≤ w.length := by
  intro k
  induction k with
  | zero =>
    intro w y hw _ hr
    obtain rfl : w = [] := List.length_eq_zero_iff.1 hw
    simp only [runs, Option.some.injEq] at hr
    subst hr
    exact ⟨[], mem_at h.hd, Nat.le_refl _⟩
  | succ k ih =>
    intro w y hw hS hr
    have hne : w ≠ [] := fun e => by rw [e] at hw; cases hw
    obtain ⟨u, t, rfl⟩ : ∃ u t, w = u ++ [t] := ⟨w.dropLast, w.getLast hne, (List.dropLast_concat_getLast hne).symm⟩
    rw [runs_snoc] at hr
    cases hu : runs f s0 u with
    | none => rw [hu] at hr; cases hr
    | some z =>
      rw [hu] at hr
      have hlu : u.length = k := by simpa using hw
      obtain ⟨v, h1, h2⟩ := ih u z hlu (fun q hq => hS q (List.mem_append_left _ hq)) hu
      obtain ⟨j, hj⟩ := List.getElem?_of_mem h1
      have hjl : j < R.length := by
        rcases Nat.lt_or_ge j R.length with hl | hl
        · exact hl
        · rw [List.getElem?_eq_none hl] at hj; cases hj
      obtain ⟨w, g1, g2⟩ := h.cl j (z, v) hjl hj t (hS t (by simp)) y hr
      refine ⟨w, g1, ?_⟩
      simp only [List.length_append, List.length_cons, List.length_nil] at g2 ⊢
      omega
/-- a state has one walk in the list -/
theorem nodup_one {R : List (α × List Int)} (h : (R.map Prod.fst).Nodup) {y : α} {v w : List Int} (h1 : (y, v) ∈ R) (h2 : (y, w) ∈ R) : v = w := by
  induction R with
  | nil => cases h1
  | cons e r ih =>
    rw [List.map_cons, List.nodup_cons] at h
    rcases List.mem_cons.1 h1 with g1 | g1
    · rcases List.mem_cons.1 h2 with g2 | g2
      · rw [← g1] at g2
        exact (Prod.mk.inj g2).2.symm
      · exact absurd (List.mem_map.2 ⟨_, g2, by rw [← g1]⟩) h.1
    · rcases List.mem_cons.1 h2 with g2 | g2
      · exact absurd (List.mem_map.2 ⟨_, g1, by rw [← g2]⟩) h.1
      · exact ih h.2 g1 g2
end Pl

/- Layer 3, plain: cells that are joined with signs, and how chain after chain of them is united. -/
namespace Pl

def sg (m : Bool) : Int := if m then -1 else 1
theorem sg_xor (a b : Bool) : sg (a != b) = sg a * sg b := by cases a <;> cases b <;> rfl
theorem sg_inj {a b : Bool} (h : sg a = sg b) : a = b := by cases a <;> cases b <;> first | rfl | (simp [sg] at h)
/-- joined over some edges, with the sign of the way -/
inductive Jn (E : List (Nat × Nat × Bool)) : Nat → Nat → Bool → Prop
  | refl (x : Nat) : Jn E x x false
  | fwd {x y z : Nat} {m e : Bool} : Jn E x y m → (y, z, e) ∈ E → Jn E x z (m != e)
  | bwd {x y z : Nat} {m e : Bool} : Jn E x y m → (z, y, e) ∈ E → Jn E x z (m != e)
theorem xor_assoc (a b c : Bool) : (a != (b != c)) = ((a != b) != c) := by cases a <;> cases b <;> cases c <;> rfl
theorem xor_comm (a b : Bool) : (a != b) = (b != a) := by cases a <;> cases b <;> rfl
theorem Jn.trans {E : List (Nat × Nat × Bool)} {x y z : Nat} {m e : Bool} (h : Jn E x y m) (g : Jn E y z e) : Jn E x z (m != e) := by
  induction g with
  | refl => simpa using h
  | fwd _ hE ih => rw [xor_assoc]; exact ih.fwd hE
  | bwd _ hE ih => rw [xor_assoc]; exact ih.bwd hE
theorem Jn.edge {E : List (Nat × Nat × Bool)} {x y : Nat} {e : Bool} (h : (x, y, e) ∈ E) : Jn E x y e := by
  have := (Jn.refl (E := E) x).fwd h
  simpa using this
theorem Jn.egde {E : List (Nat × Nat × Bool)} {x y : Nat} {e : Bool} (h : (y, x, e) ∈ E) : Jn E x y e := by
  have := (Jn.refl (E := E) x).bwd h
  simpa using this
theorem Jn.symm {E : List (Nat × Nat × Bool)} {x y : Nat} {m : Bool} (h : Jn E x y m) : Jn E y x m := by
  induction h with
  | refl => exact Jn.refl _
  | fwd _ hE ih => rw [xor_comm]; exact (Jn.egde hE).trans ih
  | bwd _ hE ih => rw [xor_comm]; exact (Jn.edge hE).trans ih
theorem Jn.mono {E F : List (Nat × Nat × Bool)} (h : ∀ e ∈ E, e ∈ F) {x y : Nat} {m : Bool} (g : Jn E x y m) : Jn F x y m := by
  induction g with
  | refl => exact Jn.refl _
  | fwd _ hE ih => exact ih.fwd (h _ hE)
  | bwd _ hE ih => exact ih.bwd (h _ hE)

/-- the classes of the cells below N, when the edges E are united -/
structure Uf (N : Nat) (E : List (Nat × Nat × Bool)) (l : Nat → Nat) (w : Nat → Int) : Prop where
  le : ∀ c, c < N → l c ≤ c
  id : ∀ c, c < N → l (l c) = l c
  rt : ∀ c, c < N → w (l c) = 1 ∨ w (l c) = 0
  tri : ∀ c, c < N → w c = 1 ∨ w c = -1 ∨ w c = 0
  pin : ∀ x y, x < N → y < N → l x = l y → w x = 0 → w y = 0
  snd : ∀ c m, c < N → w c = 0 ∨ w c = sg m → Jn E c (l c) m
  cpl : ∀ x y e, (x, y, e) ∈ E → x < N ∧ y < N ∧ l x = l y ∧ (w x = 0 ∨ w x * w y = sg e)
theorem uf_start (N : Nat) : Uf N [] (fun c => c) (fun _ => 1) := by
  refine ⟨fun c _ => Nat.le_refl _, fun c _ => rfl, fun c _ => Or.inl rfl, fun c _ => Or.inl rfl, fun x y _ _ _ h => by simp at h, fun c m _ h => ?_, fun x y e h => by cases h⟩
  cases m
  · exact Jn.refl _
  · simp [sg] at h
/-- what the classes say is what is joined -/
theorem Uf.iff {N : Nat} {E : List (Nat × Nat × Bool)} {l : Nat → Nat} {w : Nat → Int} (h : Uf N E l w) {x y : Nat} (hx : x < N) (hy : y < N) (m : Bool) : Jn E x y m ↔ l x = l y ∧ (w x = 0 ∨ w x * w y = sg m) := by
  have sq : ∀ c, c < N → w c ≠ 0 → w c * w c = 1 := fun c hc h0 => by
    rcases h.tri c hc with e | e | e
    · rw [e]; rfl
    · rw [e]; rfl
    · exact absurd e h0
  constructor
  · intro g
    have key : ∀ {a b : Nat} {m : Bool}, Jn E a b m → a < N → b < N ∧ l a = l b ∧ (w a = 0 ∨ w a * w b = sg m) := by
      intro a b m g ha
      induction g with
      | refl =>
        refine ⟨ha, rfl, ?_⟩
        by_cases h0 : w a = 0
        · exact Or.inl h0
        · exact Or.inr (sq _ ha h0)
      | @fwd y z m e _ hE ih =>
        obtain ⟨hy, h1, h2⟩ := ih
        obtain ⟨_, hz, h3, h4⟩ := h.cpl _ _ _ hE
        refine ⟨hz, h1.trans h3, ?_⟩
        by_cases h0 : w a = 0
        · exact Or.inl h0
        · right
          have hy0 : w y ≠ 0 := fun e => h0 (h.pin y a hy ha h1.symm e)
          rw [sg_xor, ← h2.resolve_left h0, ← h4.resolve_left hy0, Int.mul_assoc, ← Int.mul_assoc (w y), sq y hy hy0, Int.one_mul]
      | @bwd y z m e _ hE ih =>
        obtain ⟨hy, h1, h2⟩ := ih
        obtain ⟨hz, _, h3, h4⟩ := h.cpl _ _ _ hE
        refine ⟨hz, h1.trans h3.symm, ?_⟩
        by_cases h0 : w a = 0
        · exact Or.inl h0
        · right
          have hy0 : w y ≠ 0 := fun e => h0 (h.pin y a hy ha h1.symm e)
          have hz0 : w z ≠ 0 := fun e => hy0 (h.pin z y hz hy h3 e)
          have h5 := h4.resolve_left hz0
          rw [sg_xor, ← h2.resolve_left h0, ← h5, Int.mul_comm (w z), Int.mul_assoc, ← Int.mul_assoc (w y), sq y hy hy0, Int.one_mul]
    exact (key g hx).2
  · rintro ⟨h1, h2⟩
    by_cases h0 : w x = 0
    · have h3 := h.pin x y hx hy h1 h0
      have a := h.snd x m hx (Or.inl h0)
      have b := (h.snd y false hy (Or.inl h3)).symm
      rw [h1] at a
      simpa using a.trans b
    · have hy0 : w y ≠ 0 := fun e => h0 (h.pin y x hy hx h1.symm e)
      have sgn : ∀ c, c < N → w c ≠ 0 → ∃ m, w c = sg m := fun c hc h0 => by
        rcases h.tri c hc with e | e | e
        · exact ⟨false, e⟩
        · exact ⟨true, e⟩
        · exact absurd e h0
      obtain ⟨a, ha⟩ := sgn x hx h0
      obtain ⟨b, hb⟩ := sgn y hy hy0
      have h3 := h2.resolve_left h0
      rw [ha, hb, ← sg_xor] at h3
      have ja := h.snd x a hx (Or.inr ha)
      have jb := (h.snd y b hy (Or.inr hb)).symm
      rw [h1] at ja
      rw [← sg_inj h3]
      exact ja.trans jb

/-- unite: two cells, and the way between them -/
def stay (l : Nat → Nat) (x y : Nat) : Nat := min (l x) (l y)
def goes (l : Nat → Nat) (x y : Nat) : Nat := max (l x) (l y)
def across (l : Nat → Nat) (w : Nat → Int) (x y : Nat) (e : Bool) : Int :=
  if stay l x y = goes l x y ∧ w x * sg e * w y = -1 then 0 else w x * sg e * w y
def unL (l : Nat → Nat) (x y : Nat) : Nat → Nat := fun c => if l c = goes l x y then stay l x y else l c
def unW (l : Nat → Nat) (w : Nat → Int) (x y : Nat) (e : Bool) : Nat → Int := fun c =>
  if l c = goes l x y then w c * across l w x y e else if l c = stay l x y then w c * (across l w x y e * across l w x y e) else w c
theorem sg_cases (e : Bool) : sg e = 1 ∨ sg e = -1 := by cases e <;> simp [sg]
theorem tri_mul {a b : Int} (ha : a = 1 ∨ a = -1 ∨ a = 0) (hb : b = 1 ∨ b = -1 ∨ b = 0) : a * b = 1 ∨ a * b = -1 ∨ a * b = 0 := by
  rcases ha with rfl | rfl | rfl <;> rcases hb with rfl | rfl | rfl <;> simp
set_option maxHeartbeats 4000000 in
theorem Uf.unite {N : Nat} {E : List (Nat × Nat × Bool)} {l : Nat → Nat} {w : Nat → Int} (h : Uf N E l w) {x y : Nat} (hx : x < N) (hy : y < N) (e : Bool) : Uf N ((x, y, e) :: E) (unL l x y) (unW l w x y e) := by
  have hsg : (stay l x y = l x ∧ goes l x y = l y) ∨ (stay l x y = l y ∧ goes l x y = l x) := by unfold stay goes; omega
  have hle : stay l x y ≤ goes l x y := by unfold stay goes; omega
  obtain ⟨A, hA⟩ : ∃ A, across l w x y e = A := ⟨_, rfl⟩
  have eL : ∀ c, unL l x y c = if l c = goes l x y then stay l x y else l c := fun _ => rfl
  have eW : ∀ c, unW l w x y e c = if l c = goes l x y then w c * A else if l c = stay l x y then w c * (A * A) else w c := fun c => by unfold unW; rw [hA]
  have hA' : A = if stay l x y = goes l x y ∧ w x * sg e * w y = -1 then 0 else w x * sg e * w y := by rw [← hA]; rfl
  generalize unL l x y = l' at *
  generalize unW l w x y e = w' at *
  generalize stay l x y = s at *
  generalize goes l x y = g at *
  clear hA
  have lx := h.le x hx
  have ly := h.le y hy
  have ix := h.id x hx
  have iy := h.id y hy
  have sN : s < N := by omega
  have gN : g < N := by omega
  have ls : l s = s := by rcases hsg with ⟨a, _⟩ | ⟨a, _⟩ <;> rw [a] <;> assumption
  have lg : l g = g := by rcases hsg with ⟨_, a⟩ | ⟨_, a⟩ <;> rw [a] <;> assumption
  have inx : l x = g ∨ l x = s := by omega
  have iny : l y = g ∨ l y = s := by omega
  have tx := h.tri x hx
  have ty := h.tri y hy
  have tp : w x * sg e * w y = 1 ∨ w x * sg e * w y = -1 ∨ w x * sg e * w y = 0 := tri_mul (tri_mul tx (by rcases sg_cases e with h | h <;> simp [h])) ty
  have F3 : A = 1 ∨ A = -1 ∨ A = 0 := by
    rw [hA']
    split
    · exact Or.inr (Or.inr rfl)
    · exact tp
  have F4 : s = g → A = 1 ∨ A = 0 := fun hs => by
    rw [hA']
    by_cases hp : w x * sg e * w y = -1
    · rw [if_pos ⟨hs, hp⟩]; exact Or.inr rfl
    · rw [if_neg (fun q => hp q.2)]
      rcases tp with q | q | q
      · exact Or.inl q
      · exact absurd q hp
      · exact Or.inr q
  have F6 : A ≠ 0 → A = w x * sg e * w y := fun h0 => by
    rw [hA'] at h0 ⊢
    split
    · rename_i hc; rw [if_pos hc] at h0; exact absurd rfl h0
    · rfl
  have F5 : A ≠ 0 → w x ≠ 0 ∧ w y ≠ 0 := fun h0 => by
    have := F6 h0
    constructor <;> intro q <;> rw [q] at this <;> simp at this <;> exact h0 this
  have F7 : A = 0 → w x = 0 ∨ w y = 0 ∨ (s = g ∧ w x * sg e * w y = -1) := fun h0 => by
    by_cases hc : s = g ∧ w x * sg e * w y = -1
    · exact Or.inr (Or.inr hc)
    · rw [if_neg hc] at hA'
      rw [h0] at hA'
      rcases Int.mul_eq_zero.1 hA'.symm with q | q
      · rcases Int.mul_eq_zero.1 q with q | q
        · exact Or.inl q
        · rcases sg_cases e with r | r <;> rw [r] at q <;> cases q
      · exact Or.inr (Or.inl q)
  have AA : A ≠ 0 → A * A = 1 := fun h0 => by
    rcases F3 with q | q | q
    · rw [q]; rfl
    · rw [q]; rfl
    · exact absurd q h0
  -- in a class that is united, nothing is pinned unless all is
  have np : A ≠ 0 → ∀ c, c < N → l c = g ∨ l c = s → w c ≠ 0 := fun h0 c hc hm q => by
    obtain ⟨a, b⟩ := F5 h0
    rcases hsg with ⟨p1, p2⟩ | ⟨p1, p2⟩ <;> rcases hm with r | r
    · exact b (h.pin c y hc hy (by omega) q)
    · exact a (h.pin c x hc hx (by omega) q)
    · exact a (h.pin c x hc hx (by omega) q)
    · exact b (h.pin c y hc hy (by omega) q)
  have all0 : A = 0 → ∀ c, l c = g ∨ l c = s → w' c = 0 := fun h0 c hm => by
    rw [eW, h0]
    split
    · simp
    · split
      · simp
      · rename_i h1 h2
        rcases hm with r | r
        · exact absurd r h1
        · exact absurd r h2
  have out : ∀ c, ¬ (l c = g ∨ l c = s) → w' c = w c ∧ l' c = l c := fun c hm => by
    rw [eW, eL, if_neg (fun q => hm (Or.inl q)), if_neg (fun q => hm (Or.inr q)), if_neg (fun q => hm (Or.inl q))]
    exact ⟨rfl, rfl⟩
  have inn : ∀ c, l c = g ∨ l c = s → l' c = s := fun c hm => by
    rw [eL]
    split
    · rfl
    · rename_i q
      exact hm.resolve_left q
  have ed : Jn ((x, y, e) :: E) x y e := Jn.edge List.mem_cons_self
  have old : ∀ {a b : Nat} {m : Bool}, Jn E a b m → Jn ((x, y, e) :: E) a b m := fun j => j.mono fun _ q => List.mem_cons_of_mem _ q
  have some1 : ∀ c, c < N → ∃ m, Jn E c (l c) m := fun c hc => by
    rcases h.tri c hc with q | q | q
    · exact ⟨false, h.snd c false hc (Or.inr q)⟩
    · exact ⟨true, h.snd c true hc (Or.inr q)⟩
    · exact ⟨false, h.snd c false hc (Or.inl q)⟩
  have some2 : ∀ a b, a < N → b < N → l a = l b → ∃ m, Jn ((x, y, e) :: E) a b m := fun a b ha hb hl => by
    obtain ⟨m1, j1⟩ := some1 a ha
    obtain ⟨m2, j2⟩ := some1 b hb
    rw [hl] at j1
    exact ⟨_, old (j1.trans j2.symm)⟩
  refine ⟨fun c hc => ?_, fun c hc => ?_, fun c hc => ?_, fun c hc => ?_, fun a b ha hb hl h0 => ?_, fun c m hc hm => ?_, fun a b f hE => ?_⟩
  · have := h.le c hc
    by_cases hm : l c = g ∨ l c = s
    · rw [inn c hm]; omega
    · rw [(out c hm).2]; omega
  · by_cases hm : l c = g ∨ l c = s
    · rw [inn c hm]; exact inn s (Or.inr ls)
    · rw [(out c hm).2]
      have q := h.id c hc
      rw [(out (l c) (by rw [q]; exact hm)).2]
      exact q
  · by_cases hm : l c = g ∨ l c = s
    · rw [inn c hm]
      have rs : w s = 1 ∨ w s = 0 := by have := h.rt s sN; rw [ls] at this; exact this
      rw [eW, ls]
      by_cases hq : s = g
      · rw [if_pos hq]
        rcases F4 hq with q | q <;> rw [q] <;> rcases rs with r | r <;> rw [r] <;> simp
      · rw [if_neg hq, if_pos rfl]
        rcases F3 with q | q | q <;> rw [q] <;> rcases rs with r | r <;> rw [r] <;> simp
    · rw [(out c hm).2]
      have q := h.id c hc
      rw [(out (l c) (by rw [q]; exact hm)).1]
      exact h.rt c hc
  · rw [eW]
    split
    · exact tri_mul (h.tri c hc) F3
    · split
      · exact tri_mul (h.tri c hc) (tri_mul F3 F3)
      · exact h.tri c hc
  · by_cases hm : l a = g ∨ l a = s
    · have hmb : l b = g ∨ l b = s := by
        refine Classical.byContradiction fun hn => ?_
        rw [inn a hm, (out b hn).2] at hl
        exact hn (Or.inr hl.symm)
      by_cases hz : A = 0
      · exact all0 hz b hmb
      · exfalso
        have n1 := np hz a ha hm
        rw [eW] at h0
        split at h0
        · rcases Int.mul_eq_zero.1 h0 with q | q
          · exact n1 q
          · exact hz q
        · rw [AA hz] at h0
          split at h0
          · rw [Int.mul_one] at h0; exact n1 h0
          · exact n1 h0
    · have hmb : ¬ (l b = g ∨ l b = s) := fun hn => by
        rw [inn b hn, (out a hm).2] at hl
        exact hm (Or.inr hl)
      rw [(out a hm).2, (out b hmb).2] at hl
      rw [(out a hm).1] at h0
      rw [(out b hmb).1]
      exact h.pin a b ha hb hl h0
  · by_cases hin : l c = g ∨ l c = s
    · rw [inn c hin]
      by_cases hz : A = 0
      · -- an odd way round
        have loop : Jn ((x, y, e) :: E) x x true := by
          rcases F7 hz with q | q | ⟨q, r⟩
          · exact old ((h.iff hx hx true).2 ⟨rfl, Or.inl q⟩)
          · have j := (ed.trans (old ((h.iff hy hy true).2 ⟨rfl, Or.inl q⟩))).trans ed.symm
            have : ((e != true) != e) = true := by cases e <;> rfl
            rwa [this] at j
          · have hl : l x = l y := by omega
            have hp : w x * w y = sg (!e) := by
              rcases tx with t1 | t1 | t1 <;> rcases ty with t2 | t2 | t2 <;> cases e <;> simp [t1, t2, sg] at r ⊢
            have j := (old ((h.iff hx hy (!e)).2 ⟨hl, Or.inr hp⟩)).trans ed.symm
            have : ((!e) != e) = true := by cases e <;> rfl
            rwa [this] at j
        have toX : ∀ d, d < N → l d = g ∨ l d = s → ∃ m, Jn ((x, y, e) :: E) d x m := fun d hd hm => by
          rcases hsg with ⟨p1, p2⟩ | ⟨p1, p2⟩ <;> rcases hm with r | r
          · obtain ⟨m, j⟩ := some2 d y hd hy (by omega)
            exact ⟨_, j.trans ed.symm⟩
          · exact some2 d x hd hx (by omega)
          · exact some2 d x hd hx (by omega)
          · obtain ⟨m, j⟩ := some2 d y hd hy (by omega)
            exact ⟨_, j.trans ed.symm⟩
        obtain ⟨m1, j1⟩ := toX c hc hin
        obtain ⟨m2, j2⟩ := toX s sN (Or.inr ls)
        have k1 := j1.trans j2.symm
        have k2 := (j1.trans loop).trans j2.symm
        by_cases hq : (m1 != m2) = m
        · rwa [hq] at k1
        · have : ((m1 != true) != m2) = m := by cases m1 <;> cases m2 <;> cases m <;> simp at hq ⊢
          rwa [this] at k2
      · have n1 := np hz c hc hin
        have hA6 := F6 hz
        obtain ⟨nx, ny⟩ := F5 hz
        by_cases hg : l c = g
        · by_cases hq : s = g
          · -- nothing new
            have hA1 : A = 1 := (F4 hq).resolve_right hz
            have e1 : w' c = w c := by rw [eW, if_pos hg, hA1, Int.mul_one]
            rw [e1] at hm
            have := h.snd c m hc hm
            rw [hg, ← hq] at this
            exact old this
          · have e1 : w' c = w c * A := by rw [eW, if_pos hg]
            rw [e1, hA6] at hm
            have cx := h.tri c hc
            rcases hsg with ⟨p1, p2⟩ | ⟨p1, p2⟩
            · -- c to y, to x, to s
              obtain ⟨a, ha⟩ : ∃ a, w c * w y = sg a := by
                rcases cx with q | q | q <;> rcases ty with r | r | r <;> first | exact absurd q n1 | exact absurd r ny | exact ⟨false, by rw [q, r]; rfl⟩ | exact ⟨true, by rw [q, r]; rfl⟩
              obtain ⟨b, hb⟩ : ∃ b, w x = sg b := by
                rcases tx with r | r | r
                · exact ⟨false, r⟩
                · exact ⟨true, r⟩
                · exact absurd r nx
              have j1 := old ((h.iff hc hy a).2 ⟨by omega, Or.inr ha⟩)
              have j2 := old (h.snd x b hx (Or.inr hb))
              rw [← p1] at j2
              have j := (j1.trans ed.symm).trans j2
              have hmm : ((a != e) != b) = m := by
                refine sg_inj ?_
                rw [sg_xor, sg_xor, ← ha, ← hb]
                rcases hm with q | q
                · exfalso
                  rcases cx with c1 | c1 | c1 <;> rcases tx with c2 | c2 | c2 <;> rcases ty with c3 | c3 | c3 <;> rcases sg_cases e with c4 | c4 <;> simp [c1, c2, c3, c4] at q n1 nx ny
                · rw [← q]
                  simp only [Int.mul_assoc, Int.mul_comm, Int.mul_left_comm]
              rwa [hmm] at j
            · obtain ⟨a, ha⟩ : ∃ a, w c * w x = sg a := by
                rcases cx with q | q | q <;> rcases tx with r | r | r <;> first | exact absurd q n1 | exact absurd r nx | exact ⟨false, by rw [q, r]; rfl⟩ | exact ⟨true, by rw [q, r]; rfl⟩
              obtain ⟨b, hb⟩ : ∃ b, w y = sg b := by
                rcases ty with r | r | r
                · exact ⟨false, r⟩
                · exact ⟨true, r⟩
                · exact absurd r ny
              have j1 := old ((h.iff hc hx a).2 ⟨by omega, Or.inr ha⟩)
              have j2 := old (h.snd y b hy (Or.inr hb))
              rw [← p1] at j2
              have j := (j1.trans ed).trans j2
              have hmm : ((a != e) != b) = m := by
                refine sg_inj ?_
                rw [sg_xor, sg_xor, ← ha, ← hb]
                rcases hm with q | q
                · exfalso
                  rcases cx with c1 | c1 | c1 <;> rcases tx with c2 | c2 | c2 <;> rcases ty with c3 | c3 | c3 <;> rcases sg_cases e with c4 | c4 <;> simp [c1, c2, c3, c4] at q n1 nx ny
                · rw [← q]
                  simp only [Int.mul_assoc, Int.mul_comm, Int.mul_left_comm]
              rwa [hmm] at j
        · have hS : l c = s := hin.resolve_left hg
          have e1 : w' c = w c := by rw [eW, if_neg hg, if_pos hS, AA hz, Int.mul_one]
          rw [e1] at hm
          have := h.snd c m hc hm
          rw [hS] at this
          exact old this
    · obtain ⟨o1, o2⟩ := out c hin
      rw [o1] at hm
      rw [o2]
      exact old (h.snd c m hc hm)
  · rcases List.mem_cons.1 hE with q | q
    · simp only [Prod.mk.injEq] at q
      obtain ⟨rfl, rfl, rfl⟩ := q
      refine ⟨hx, hy, by rw [inn a inx, inn b iny], ?_⟩
      by_cases hz : A = 0
      · exact Or.inl (all0 hz a inx)
      · right
        have hA6 := F6 hz
        obtain ⟨nx, ny⟩ := F5 hz
        rw [eW, eW, AA hz]
        by_cases hq : s = g
        · have hA1 : A = 1 := (F4 hq).resolve_right hz
          rw [hA1] at hA6
          rw [if_pos (show l a = g by omega), if_pos (show l b = g by omega), hA1]
          rcases tx with c2 | c2 | c2 <;> rcases ty with c3 | c3 | c3 <;> rcases sg_cases f with c4 | c4 <;> simp [c2, c3, c4] at hA6 nx ny ⊢
        · rcases hsg with ⟨p1, p2⟩ | ⟨p1, p2⟩
          · rw [if_neg (show ¬ l a = g by omega), if_pos (show l a = s by omega), if_pos (show l b = g by omega), hA6]
            rcases tx with c2 | c2 | c2 <;> rcases ty with c3 | c3 | c3 <;> rcases sg_cases f with c4 | c4 <;> simp [c2, c3, c4] at nx ny ⊢
          · rw [if_pos (show l a = g by omega), if_neg (show ¬ l b = g by omega), if_pos (show l b = s by omega), hA6]
            rcases tx with c2 | c2 | c2 <;> rcases ty with c3 | c3 | c3 <;> rcases sg_cases f with c4 | c4 <;> simp [c2, c3, c4] at nx ny ⊢
    · obtain ⟨ha, hb, h1, h2⟩ := h.cpl a b f q
      refine ⟨ha, hb, by rw [eL, eL, h1], ?_⟩
      by_cases hin : l a = g ∨ l a = s
      · by_cases hz : A = 0
        · exact Or.inl (all0 hz a hin)
        · right
          have h3 := h2.resolve_left (np hz a ha hin)
          rw [eW, eW, ← h1, AA hz]
          by_cases hg : l a = g
          · rw [if_pos hg, if_pos hg, ← h3]
            have : w a * A * (w b * A) = w a * w b * (A * A) := by simp only [Int.mul_assoc, Int.mul_left_comm, Int.mul_comm]
            rw [this, AA hz, Int.mul_one]
          · rw [if_neg hg, if_neg hg, if_pos (hin.resolve_left hg), if_pos (hin.resolve_left hg), Int.mul_one, Int.mul_one, h3]
      · rw [(out a hin).1, (out b (by rw [← h1]; exact hin)).1]
        exact h2
end Pl

/- Layer 3, plain: the classes of a group of signs. -/
namespace Pl

structure Grp (G : List (Nat × Bool)) : Prop where
  lt : ∀ g ∈ G, g.1 < 8
  one : (0, false) ∈ G
  mul : ∀ g ∈ G, ∀ h ∈ G, (cmp g.1 h.1, g.2 != h.2) ∈ G
  inv : ∀ g ∈ G, (inv g.1, g.2) ∈ G
/-- the pairs of cells that signs join -/
def edges (s : Nat) (G : List (Nat × Bool)) : List (Nat × Nat × Bool) := G.flatMap fun g => (List.range (s * s)).map fun x => (x, tk s g.1 x, g.2)
theorem mem_edges {s : Nat} {G : List (Nat × Bool)} {x y : Nat} {m : Bool} : (x, y, m) ∈ edges s G ↔ x < s * s ∧ ∃ t, (t, m) ∈ G ∧ tk s t x = y := by
  unfold edges
  rw [List.mem_flatMap]
  constructor
  · rintro ⟨g, hg, he⟩
    obtain ⟨z, hz, e⟩ := List.mem_map.1 he
    simp only [Prod.mk.injEq] at e
    obtain ⟨rfl, rfl, rfl⟩ := e
    exact ⟨List.mem_range.1 hz, g.1, hg, rfl⟩
  · rintro ⟨hx, t, ht, rfl⟩
    exact ⟨(t, m), ht, List.mem_map.2 ⟨x, List.mem_range.2 hx, rfl⟩⟩
/-- in a group, what is joined is joined by one sign -/
theorem Grp.jn {s : Nat} (hs : s ≤ 6) {G : List (Nat × Bool)} (h : Grp G) {x y : Nat} {m : Bool} (hx : x < s * s) : Jn (edges s G) x y m ↔ ∃ t, (t, m) ∈ G ∧ tk s t x = y := by
  constructor
  · intro j
    induction j with
    | refl => exact ⟨0, h.one, (act hs hx).1⟩
    | @fwd y z m e _ hE ih =>
      obtain ⟨t, ht, rfl⟩ := ih
      obtain ⟨_, u, hu, rfl⟩ := mem_edges.1 hE
      exact ⟨cmp t u, h.mul _ ht _ hu, tk_cmp hs hx (h.lt _ ht) (h.lt _ hu)⟩
    | @bwd y z m e _ hE ih =>
      obtain ⟨t, ht, rfl⟩ := ih
      obtain ⟨hz, u, hu, hy⟩ := mem_edges.1 hE
      refine ⟨cmp t (Pl.inv u), h.mul _ ht _ (h.inv _ hu), ?_⟩
      rw [tk_cmp hs hx (h.lt _ ht) (inv_lt (h.lt _ hu)), ← hy, tk_inv hs hz (h.lt _ hu)]
  · rintro ⟨t, ht, rfl⟩
    exact Jn.edge (mem_edges.2 ⟨hx, t, ht, rfl⟩)
theorem Uf.congr {N : Nat} {E F : List (Nat × Nat × Bool)} {l : Nat → Nat} {w : Nat → Int} (h : Uf N E l w) (hE : ∀ e, e ∈ E ↔ e ∈ F) : Uf N F l w :=
  ⟨h.le, h.id, h.rt, h.tri, h.pin, fun c m hc hm => (h.snd c m hc hm).mono fun e he => (hE e).1 he, fun x y e he => h.cpl x y e ((hE _).2 he)⟩
theorem Uf.ext {N : Nat} {E : List (Nat × Nat × Bool)} {l l' : Nat → Nat} {w w' : Nat → Int} (h : Uf N E l w) (h1 : ∀ c, c < N → l' c = l c) (h2 : ∀ c, c < N → w' c = w c) : Uf N E l' w' := by
  have lt : ∀ c, c < N → l c < N := fun c hc => Nat.lt_of_le_of_lt (h.le c hc) hc
  refine ⟨fun c hc => ?_, fun c hc => ?_, fun c hc => ?_, fun c hc => ?_, fun x y hx hy => ?_, fun c m hc => ?_, fun x y e he => ?_⟩
  · rw [h1 c hc]; exact h.le c hc
  · rw [h1 c hc, h1 _ (lt c hc)]; exact h.id c hc
  · rw [h1 c hc, h2 _ (lt c hc)]; exact h.rt c hc
  · rw [h2 c hc]; exact h.tri c hc
  · rw [h1 x hx, h1 y hy, h2 x hx, h2 y hy]; exact h.pin x y hx hy
  · rw [h1 c hc, h2 c hc]; exact h.snd c m hc
  · obtain ⟨a, b, c, d⟩ := h.cpl x y e he
    rw [h1 x a, h1 y b, h2 x a, h2 y b]
    exact ⟨a, b, c, d⟩
/-- what the specification says of the classes of a group -/
structure Cls (s : Nat) (G : List (Nat × Bool)) (l : Nat → Nat) (w : Nat → Int) (x : Nat) : Prop where
  at_ : ∃ g ∈ G, tk s g.1 x = l x
  min : ∀ g ∈ G, l x ≤ tk s g.1 x
  pin : w x = 0 ↔ ∃ g ∈ G, g.2 = true ∧ tk s g.1 x = x
  one : w x ≠ 0 → (w x = 1 ↔ ∃ g ∈ G, g.2 = false ∧ tk s g.1 (l x) = x)
  two : w x ≠ 0 → w x ≠ 1 → w x = -1
theorem Grp.cls {s : Nat} (hs : s ≤ 6) {G : List (Nat × Bool)} (h : Grp G) {l : Nat → Nat} {w : Nat → Int} (hu : Uf (s * s) (edges s G) l w) {x : Nat} (hx : x < s * s) : Cls s G l w x := by
  have lt : l x < s * s := Nat.lt_of_le_of_lt (hu.le x hx) hx
  have tri := hu.tri x hx
  refine ⟨?_, fun g hg => ?_, ?_, fun h0 => ?_, fun h0 h1 => ?_⟩
  · obtain ⟨m, j⟩ : ∃ m, Jn (edges s G) x (l x) m := by
      rcases tri with q | q | q
      · exact ⟨false, hu.snd x false hx (Or.inr q)⟩
      · exact ⟨true, hu.snd x true hx (Or.inr q)⟩
      · exact ⟨false, hu.snd x false hx (Or.inl q)⟩
    obtain ⟨t, ht, e⟩ := (h.jn hs hx).1 j
    exact ⟨_, ht, e⟩
  · have j := (h.jn hs hx (y := tk s g.1 x) (m := g.2)).2 ⟨g.1, hg, rfl⟩
    have hy := tk_lt hs hx (h.lt g hg)
    have e := ((hu.iff hx hy g.2).1 j).1
    rw [e]
    exact hu.le _ hy
  · have key := (hu.iff hx hx true).symm.trans (h.jn hs hx)
    have e : (l x = l x ∧ (w x = 0 ∨ w x * w x = sg true)) ↔ w x = 0 := by
      constructor
      · rintro ⟨_, q | q⟩
        · exact q
        · rcases tri with r | r | r
          · rw [r] at q; simp [sg] at q
          · rw [r] at q; simp [sg] at q
          · exact r
      · exact fun q => ⟨rfl, Or.inl q⟩
    rw [e] at key
    rw [key]
    constructor
    · rintro ⟨t, ht, q⟩; exact ⟨_, ht, rfl, q⟩
    · rintro ⟨⟨t, m⟩, ht, q, r⟩
      simp only at q
      subst q
      exact ⟨t, ht, r⟩
  · have l1 : w (l x) ≠ 0 := fun q => h0 (hu.pin (l x) x lt hx (hu.id x hx) q)
    have r1 : w (l x) = 1 := (hu.rt x hx).resolve_right l1
    have key := (hu.iff lt hx false).symm.trans (h.jn hs lt)
    have e : (l (l x) = l x ∧ (w (l x) = 0 ∨ w (l x) * w x = sg false)) ↔ w x = 1 := by
      rw [r1, Int.one_mul]
      constructor
      · rintro ⟨_, q | q⟩
        · cases q
        · exact q
      · exact fun q => ⟨hu.id x hx, Or.inr q⟩
    rw [e] at key
    rw [key]
    constructor
    · rintro ⟨t, ht, q⟩; exact ⟨_, ht, rfl, q⟩
    · rintro ⟨⟨t, m⟩, ht, q, r⟩
      simp only at q
      subst q
      exact ⟨t, ht, r⟩
  · rcases tri with q | q | q
    · exact absurd q h1
    · exact q
    · exact absurd q h0
/-- all edges united, one behind the other -/
def unAll : List (Nat × Nat × Bool) → (Nat → Nat) × (Nat → Int) → (Nat → Nat) × (Nat → Int)
  | [], q => q
  | e :: r, q => unAll r (unL q.1 e.1 e.2.1, unW q.1 q.2 e.1 e.2.1 e.2.2)
theorem uf_all {N : Nat} : ∀ (F E : List (Nat × Nat × Bool)) (q : (Nat → Nat) × (Nat → Int)), Uf N E q.1 q.2 → (∀ e ∈ F, e.1 < N ∧ e.2.1 < N) → Uf N (F ++ E) (unAll F q).1 (unAll F q).2
  | [], E, q, h, _ => h
  | e :: r, E, q, h, hF => by
    have he := hF e List.mem_cons_self
    have := uf_all r (e :: E) (unL q.1 e.1 e.2.1, unW q.1 q.2 e.1 e.2.1 e.2.2) (h.unite he.1 he.2 e.2.2) (fun x hx => hF x (List.mem_cons_of_mem _ hx))
    refine this.congr fun x => ?_
    simp only [List.mem_append, List.mem_cons]
    constructor
    · rintro (a | rfl | a)
      · exact Or.inl (Or.inr a)
      · exact Or.inl (Or.inl rfl)
      · exact Or.inr a
    · rintro ((rfl | a) | a)
      · exact Or.inr (Or.inl rfl)
      · exact Or.inl a
      · exact Or.inr (Or.inr a)
theorem uf_signs {s : Nat} (hs : s ≤ 6) {G : List (Nat × Bool)} (hG : ∀ g ∈ G, g.1 < 8) : Uf (s * s) (edges s G) (unAll (edges s G) (fun c => c, fun _ => 1)).1 (unAll (edges s G) (fun c => c, fun _ => 1)).2 := by
  have := uf_all (edges s G) [] (fun c => c, fun _ => 1) (uf_start (s * s)) (fun e he => by
    obtain ⟨x, y, m⟩ := e
    obtain ⟨hx, t, ht, rfl⟩ := mem_edges.1 he
    exact ⟨hx, tk_lt hs hx (hG _ ht)⟩)
  rwa [List.append_nil] at this
end Pl

/- Layer 3, plain: shops, walks through their workings, and the group of the signs of a plate. -/
namespace Pl

structure Wk where
  a : Int
  b : Int
  t : Int
def noW : Wk := ⟨0, 0, 0⟩
def okW (m : Int) (w : Wk) : Bool := decide (0 ≤ w.a ∧ w.a < m ∧ 0 ≤ w.b ∧ w.b < m ∧ w.a ≠ w.b ∧ 0 ≤ w.t ∧ w.t < 8)
/-- Check -/
def chk (side m : Int) (W : List Wk) : Int := if side < 1 ∨ 6 < side ∨ m < 1 ∨ 6 < m then 1 else if 16 < W.length then 2 else if W.all (okW m) then 0 else 1
def Ok (m : Int) (W : List Wk) : Prop := ∀ i, i < W.length → okW m (W.getD i noW) = true
theorem chk_ok {side m : Int} {W : List Wk} (h : chk side m W = 0) : (1 ≤ side ∧ side ≤ 6) ∧ (1 ≤ m ∧ m ≤ 6) ∧ W.length ≤ 16 ∧ Ok m W := by
  unfold chk at h
  split at h
  · cases h
  · split at h
    · cases h
    · split at h
      · rename_i h1 h2 h3
        refine ⟨by omega, by omega, by omega, fun i hi => ?_⟩
        rw [List.getD, List.getElem?_eq_getElem hi]
        exact List.all_eq_true.1 h3 _ (List.getElem_mem hi)
      · cases h
theorem okW_spec {m : Int} {w : Wk} (h : okW m w = true) : 0 ≤ w.a ∧ w.a < m ∧ 0 ≤ w.b ∧ w.b < m ∧ w.a ≠ w.b ∧ 0 ≤ w.t ∧ w.t < 8 := of_decide_eq_true h

/-- a plate, and the sign of a walk to it -/
structure St where
  p : Int
  t : Nat
  m : Bool
deriving DecidableEq
/-- the state behind a step -/
def adv (W : List Wk) (s : St) (k : Int) : Option St :=
  if k < 0 then if (W.getD (-1 - k).toNat noW).b = s.p then some ⟨(W.getD (-1 - k).toNat noW).a, cmp s.t (inv (W.getD (-1 - k).toNat noW).t.toNat), !s.m⟩ else none
  else if (W.getD k.toNat noW).a = s.p then some ⟨(W.getD k.toNat noW).b, cmp s.t (W.getD k.toNat noW).t.toNat, !s.m⟩ else none
def stps (n : Nat) : List Int := (List.range (2 * n)).map fun k : Nat => (k : Int) - n
theorem mem_stps {n : Nat} {k : Int} : k ∈ stps n ↔ -(n : Int) ≤ k ∧ k < n := by
  unfold stps
  rw [List.mem_map]
  constructor
  · rintro ⟨a, ha, rfl⟩
    have := List.mem_range.1 ha
    omega
  · intro h
    exact ⟨(k + n).toNat, List.mem_range.2 (by omega), by omega⟩
theorem adv_in {m : Int} {W : List Wk} (hW : Ok m W) {s y : St} {k : Int} (hk : k ∈ stps W.length) (hs : s.t < 8) (h : adv W s k = some y) : (0 ≤ y.p ∧ y.p < m) ∧ y.t < 8 := by
  have hk' := mem_stps.1 hk
  unfold adv at h
  split at h
  · have ok := okW_spec (hW (-1 - k).toNat (by omega))
    split at h
    · simp only [Option.some.injEq] at h
      subst h
      exact ⟨⟨ok.1, ok.2.1⟩, cmp_lt hs (inv_lt (by omega))⟩
    · cases h
  · have ok := okW_spec (hW k.toNat (by omega))
    split at h
    · simp only [Option.some.injEq] at h
      subst h
      exact ⟨⟨ok.2.2.1, ok.2.2.2.1⟩, cmp_lt hs (by omega)⟩
    · cases h
theorem adv_back {m : Int} {W : List Wk} (hW : Ok m W) {s y : St} {k : Int} (hk : k ∈ stps W.length) (hs : s.t < 8) (h : adv W s k = some y) : adv W y (-1 - k) = some s ∧ -1 - k ∈ stps W.length := by
  have hk' := mem_stps.1 hk
  refine ⟨?_, mem_stps.2 (by omega)⟩
  unfold adv at h
  split at h
  · rename_i h0
    have ok := okW_spec (hW (-1 - k).toNat (by omega))
    have ht : (W.getD (-1 - k).toNat noW).t.toNat < 8 := by omega
    split at h
    · rename_i hb
      simp only [Option.some.injEq] at h
      subst h
      unfold adv
      rw [if_neg (by omega), if_pos rfl]
      obtain ⟨p, t, m⟩ := s
      simp only at hb hs ⊢
      rw [hb, cmp_assoc hs (inv_lt ht) ht, (gp ht).inv', (gp hs).one, Bool.not_not]
    · cases h
  · rename_i h0
    have ok := okW_spec (hW k.toNat (by omega))
    have ht : (W.getD k.toNat noW).t.toNat < 8 := by omega
    split at h
    · rename_i hb
      simp only [Option.some.injEq] at h
      subst h
      unfold adv
      have e : -1 - (-1 - k) = k := by omega
      rw [if_pos (by omega), e, if_pos rfl]
      obtain ⟨p, t, m⟩ := s
      simp only at hb hs ⊢
      rw [hb, cmp_assoc hs ht (inv_lt ht), (gp ht).inv, (gp hs).one, Bool.not_not]
    · cases h
theorem runs_in {m : Int} {W : List Wk} (hW : Ok m W) : ∀ (w : List Int) (s y : St), (∀ k ∈ w, k ∈ stps W.length) → s.t < 8 → runs (adv W) s w = some y → y.t < 8 ∧ (0 ≤ s.p ∧ s.p < m → 0 ≤ y.p ∧ y.p < m)
  | [], s, y, _, hs, h => by
    simp only [runs, Option.some.injEq] at h
    subst h
    exact ⟨hs, id⟩
  | k :: r, s, y, hw, hs, h => by
    rw [runs] at h
    cases ha : adv W s k with
    | none => rw [ha] at h; cases h
    | some z =>
      rw [ha] at h
      have hz := adv_in hW (hw k List.mem_cons_self) hs ha
      have := runs_in hW r z y (fun x hx => hw x (List.mem_cons_of_mem _ hx)) hz.2 h
      exact ⟨this.1, fun _ => this.2 hz.1⟩
/-- a walk back -/
theorem runs_back {m : Int} {W : List Wk} (hW : Ok m W) : ∀ (w : List Int) (s y : St), (∀ k ∈ w, k ∈ stps W.length) → s.t < 8 → runs (adv W) s w = some y → ∃ v : List Int, (∀ k ∈ v, k ∈ stps W.length) ∧ runs (adv W) y v = some s
  | [], s, y, _, _, h => by
    simp only [runs, Option.some.injEq] at h
    subst h
    exact ⟨[], fun k hk => (List.not_mem_nil hk).elim, rfl⟩
  | k :: r, s, y, hw, hs, h => by
    rw [runs] at h
    cases ha : adv W s k with
    | none => rw [ha] at h; cases h
    | some z =>
      rw [ha] at h
      have hk := hw k List.mem_cons_self
      have hz := adv_in hW hk hs ha
      obtain ⟨v, h1, h2⟩ := runs_back hW r z y (fun x hx => hw x (List.mem_cons_of_mem _ hx)) hz.2 h
      obtain ⟨b1, b2⟩ := adv_back hW hk hs ha
      refine ⟨v ++ [-1 - k], fun x hx => ?_, by rw [runs_snoc, h2]; exact b1⟩
      rcases List.mem_append.1 hx with hx | hx
      · exact h1 x hx
      · simp only [List.mem_singleton] at hx
        subst hx
        exact b2
/-- a sign ahead of all -/
def mv (u : Nat) (e : Bool) (s : St) : St := ⟨s.p, cmp u s.t, e != s.m⟩
theorem adv_mv {m : Int} {W : List Wk} (hW : Ok m W) {u : Nat} (hu : u < 8) (e : Bool) {s : St} {k : Int} (hk : k ∈ stps W.length) (hs : s.t < 8) : adv W (mv u e s) k = (adv W s k).map (mv u e) := by
  have hk' := mem_stps.1 hk
  have hb : ∀ a b : Bool, (a != !b) = !(a != b) := by decide
  unfold adv mv
  simp only
  split
  · have ok := okW_spec (hW (-1 - k).toNat (by omega))
    split
    · rw [Option.map_some, hb, cmp_assoc hu hs (inv_lt (by omega))]
    · rfl
  · have ok := okW_spec (hW k.toNat (by omega))
    split
    · rw [Option.map_some, hb, cmp_assoc hu hs (by omega)]
    · rfl
theorem runs_mv {m : Int} {W : List Wk} (hW : Ok m W) {u : Nat} (hu : u < 8) (e : Bool) : ∀ (w : List Int) (s : St), (∀ k ∈ w, k ∈ stps W.length) → s.t < 8 → runs (adv W) (mv u e s) w = (runs (adv W) s w).map (mv u e)
  | [], s, _, _ => rfl
  | k :: r, s, hw, hs => by
    have hk := hw k List.mem_cons_self
    rw [runs, runs, adv_mv hW hu e hk hs]
    cases ha : adv W s k with
    | none => rfl
    | some z => exact runs_mv hW hu e r z (fun x hx => hw x (List.mem_cons_of_mem _ hx)) (adv_in hW hk hs ha).2
def start (p : Int) : St := ⟨p, 0, false⟩
/-- the sign of a closed walk -/
def Clo (W : List Wk) (p : Int) (t : Nat) (m : Bool) : Prop := ∃ w : List Int, (∀ k ∈ w, k ∈ stps W.length) ∧ runs (adv W) (start p) w = some ⟨p, t, m⟩
theorem mv_start {t : Nat} (ht : t < 8) (m : Bool) (p : Int) : mv t m (start p) = ⟨p, t, m⟩ := by
  unfold mv start
  simp only [Bool.bne_false]
  rw [(gp ht).one]
theorem Clo.lt {m : Int} {W : List Wk} (hW : Ok m W) {p : Int} {t : Nat} {e : Bool} (h : Clo W p t e) : t < 8 := by
  obtain ⟨w, h1, h2⟩ := h
  exact (runs_in hW w _ _ h1 (by unfold start; simp only; omega) h2).1
theorem clo_one (W : List Wk) (p : Int) : Clo W p 0 false := ⟨[], fun k hk => (List.not_mem_nil hk).elim, rfl⟩
theorem Clo.mul {m : Int} {W : List Wk} (hW : Ok m W) {p : Int} {t u : Nat} {e f : Bool} (h : Clo W p t e) (g : Clo W p u f) : Clo W p (cmp t u) (e != f) := by
  have ht := h.lt hW
  obtain ⟨w, h1, h2⟩ := h
  obtain ⟨v, g1, g2⟩ := g
  refine ⟨w ++ v, fun k hk => ?_, ?_⟩
  · rcases List.mem_append.1 hk with hk | hk
    · exact h1 k hk
    · exact g1 k hk
  · rw [runs_append, h2]
    show runs (adv W) ⟨p, t, e⟩ v = _
    rw [← mv_start ht e p, runs_mv hW ht e v _ g1 (by unfold start; simp only; omega), g2]
    rfl
theorem Clo.inv {m : Int} {W : List Wk} (hW : Ok m W) {p : Int} {t : Nat} {e : Bool} (h : Clo W p t e) : Clo W p (Pl.inv t) e := by
  have ht := h.lt hW
  obtain ⟨w, h1, h2⟩ := h
  obtain ⟨v, g1, g2⟩ := runs_back hW w _ _ h1 (by unfold start; simp only; omega) h2
  refine ⟨v, g1, ?_⟩
  have k := runs_mv hW (inv_lt ht) e v ⟨p, t, e⟩ g1 ht
  rw [g2] at k
  have e1 : mv (Pl.inv t) e ⟨p, t, e⟩ = start p := by
    unfold mv start
    simp only
    rw [(gp ht).inv']
    cases e <;> rfl
  rw [e1] at k
  rw [k, Option.map_some, mv_start (inv_lt ht)]
/-- all states of a plate -/
def ways (W : List Wk) (p : Int) : List (St × List Int) := bfs (adv W) (stps W.length) 97 0 [(start p, [])]
def univ (m : Int) : List St := (List.range m.toNat).flatMap fun p : Nat => (List.range 8).flatMap fun t => [⟨(p : Int), t, false⟩, ⟨(p : Int), t, true⟩]
theorem mem_univ {m : Int} {s : St} (h : (0 ≤ s.p ∧ s.p < m) ∧ s.t < 8) : s ∈ univ m := by
  unfold univ
  rw [List.mem_flatMap]
  refine ⟨s.p.toNat, List.mem_range.2 (by omega), List.mem_flatMap.2 ⟨s.t, List.mem_range.2 h.2, ?_⟩⟩
  obtain ⟨p, t, m⟩ := s
  have e : ((p.toNat : Nat) : Int) = p := by simp only at h; omega
  cases m <;> simp [e]
theorem univ_len {m : Int} (h : m ≤ 6) : (univ m).length ≤ 96 := by
  have : m.toNat ≤ 6 := by omega
  unfold univ
  generalize m.toNat = k at this
  have : k = 0 ∨ k = 1 ∨ k = 2 ∨ k = 3 ∨ k = 4 ∨ k = 5 ∨ k = 6 := by omega
  rcases this with rfl | rfl | rfl | rfl | rfl | rfl | rfl <;> decide
theorem ways_ok {m : Int} {W : List Wk} (hm : m ≤ 6) (hW : Ok m W) {p : Int} (hp : 0 ≤ p ∧ p < m) : Bf (adv W) (stps W.length) (start p) (ways W p).length (ways W p) := by
  have hs : (start p).t < 8 := by unfold start; simp only; omega
  refine bfs_ends (U := univ m) (fun w y hw hr => ?_) 97 0 _ (bf_start _ _ _) (by have := univ_len hm; omega)
  have := runs_in hW w _ _ hw hs hr
  exact mem_univ ⟨this.2 hp, this.1⟩
/-- a state is in the list exactly if a walk leads to it -/
theorem ways_iff {m : Int} {W : List Wk} (hm : m ≤ 6) (hW : Ok m W) {p : Int} (hp : 0 ≤ p ∧ p < m) (s : St) : s ∈ (ways W p).map Prod.fst ↔ ∃ w : List Int, (∀ k ∈ w, k ∈ stps W.length) ∧ runs (adv W) (start p) w = some s := by
  have h := ways_ok hm hW hp
  constructor
  · intro hs
    obtain ⟨e, he, rfl⟩ := List.mem_map.1 hs
    exact ⟨e.2, (h.run e he).2, (h.run e he).1⟩
  · rintro ⟨w, h1, h2⟩
    obtain ⟨v, h3, _⟩ := bfs_all h w.length w s rfl h1 h2
    exact List.mem_map.2 ⟨_, h3, rfl⟩
/-- the sixteen signs in their order -/
def all16 : List (Nat × Bool) := (List.range 8).flatMap fun t => [(t, false), (t, true)]
theorem mem_all16 {t : Nat} {m : Bool} : (t, m) ∈ all16 ↔ t < 8 := by
  unfold all16
  rw [List.mem_flatMap]
  constructor
  · rintro ⟨u, hu, h⟩
    have := List.mem_range.1 hu
    simp only [List.mem_cons, Prod.mk.injEq, List.not_mem_nil, or_false] at h
    omega
  · intro h
    exact ⟨t, List.mem_range.2 h, by cases m <;> simp⟩
/-- Signs -/
def signs (W : List Wk) (p : Int) : List (Nat × Bool) := all16.filter fun g => decide (⟨p, g.1, g.2⟩ ∈ (ways W p).map Prod.fst)
theorem mem_signs {m : Int} {W : List Wk} (hm : m ≤ 6) (hW : Ok m W) {p : Int} (hp : 0 ≤ p ∧ p < m) {t : Nat} {e : Bool} : (t, e) ∈ signs W p ↔ Clo W p t e := by
  unfold signs
  rw [List.mem_filter, decide_eq_true_eq, ways_iff hm hW hp, mem_all16]
  exact ⟨fun h => h.2, fun h => ⟨Clo.lt hW h, h⟩⟩
/-- the signs of a plate are a group -/
theorem signs_grp {m : Int} {W : List Wk} (hm : m ≤ 6) (hW : Ok m W) {p : Int} (hp : 0 ≤ p ∧ p < m) : Grp (signs W p) := by
  refine ⟨fun g hg => ?_, (mem_signs hm hW hp).2 (clo_one W p), fun g hg h hh => ?_, fun g hg => ?_⟩
  · exact Clo.lt hW ((mem_signs hm hW hp (t := g.1) (e := g.2)).1 hg)
  · exact (mem_signs hm hW hp).2 (((mem_signs hm hW hp (t := g.1) (e := g.2)).1 hg).mul hW ((mem_signs hm hW hp (t := h.1) (e := h.2)).1 hh))
  · exact (mem_signs hm hW hp).2 (((mem_signs hm hW hp (t := g.1) (e := g.2)).1 hg).inv hW)
end Pl

/- Layer 3, plain: uniting over lists, as plate does it. -/
namespace Pl

def lsF (l : List Nat) : Nat → Nat := fun c => l.getD c 0
def wsF (w : List Int) : Nat → Int := fun c => w.getD c 0
def unlL (l : List Nat) (x y : Nat) : List Nat := l.map fun c => if c = goes (lsF l) x y then stay (lsF l) x y else c
def unlW (l : List Nat) (w : List Int) (x y : Nat) (e : Bool) : List Int := (l.zip w).map fun p =>
  if p.1 = goes (lsF l) x y then p.2 * across (lsF l) (wsF w) x y e else if p.1 = stay (lsF l) x y then p.2 * (across (lsF l) (wsF w) x y e * across (lsF l) (wsF w) x y e) else p.2
theorem lsF_at {l : List Nat} {c : Nat} (h : c < l.length) : lsF l c = l[c] := by
  unfold lsF
  rw [List.getD, List.getElem?_eq_getElem h]
  rfl
theorem wsF_at {l : List Int} {c : Nat} (h : c < l.length) : wsF l c = l[c] := by
  unfold wsF
  rw [List.getD, List.getElem?_eq_getElem h]
  rfl
theorem unlL_len (l : List Nat) (x y : Nat) : (unlL l x y).length = l.length := by unfold unlL; rw [List.length_map]
theorem unlW_len (l : List Nat) (w : List Int) (x y : Nat) (e : Bool) (h : w.length = l.length) : (unlW l w x y e).length = l.length := by
  unfold unlW
  rw [List.length_map, List.length_zip, h, Nat.min_self]
theorem lsF_unl {l : List Nat} {c : Nat} (h : c < l.length) (x y : Nat) : lsF (unlL l x y) c = unL (lsF l) x y c := by
  rw [lsF_at (by rw [unlL_len]; exact h)]
  unfold unlL unL
  rw [List.getElem_map, lsF_at h]
theorem wsF_unl {l : List Nat} {w : List Int} {c : Nat} (hw : w.length = l.length) (h : c < l.length) (x y : Nat) (e : Bool) : wsF (unlW l w x y e) c = unW (lsF l) (wsF w) x y e c := by
  rw [wsF_at (by rw [unlW_len _ _ _ _ _ hw]; exact h)]
  unfold unlW unW
  rw [List.getElem_map, List.getElem_zip, lsF_at h, wsF_at (by omega)]
/-- all edges, one behind the other -/
def unlAll : List (Nat × Nat × Bool) → List Nat × List Int → List Nat × List Int
  | [], q => q
  | e :: r, q => unlAll r (unlL q.1 e.1 e.2.1, unlW q.1 q.2 e.1 e.2.1 e.2.2)
theorem unlAll_uf {N : Nat} : ∀ (F E : List (Nat × Nat × Bool)) (q : List Nat × List Int), q.1.length = N → q.2.length = N → Uf N E (lsF q.1) (wsF q.2) → (∀ e ∈ F, e.1 < N ∧ e.2.1 < N) →
    Uf N (F ++ E) (lsF (unlAll F q).1) (wsF (unlAll F q).2) ∧ (unlAll F q).1.length = N ∧ (unlAll F q).2.length = N
  | [], E, q, h1, h2, h, _ => ⟨h, h1, h2⟩
  | e :: r, E, q, h1, h2, h, hF => by
    have he := hF e List.mem_cons_self
    have hu := (h.unite he.1 he.2 e.2.2).ext (l' := lsF (unlL q.1 e.1 e.2.1)) (w' := wsF (unlW q.1 q.2 e.1 e.2.1 e.2.2)) (fun c hc => lsF_unl (by omega) _ _) (fun c hc => wsF_unl (by omega) (by omega) _ _ _)
    obtain ⟨g1, g2, g3⟩ := unlAll_uf r (e :: E) (unlL q.1 e.1 e.2.1, unlW q.1 q.2 e.1 e.2.1 e.2.2) (by rw [unlL_len]; exact h1) (by rw [unlW_len _ _ _ _ _ (by omega)]; exact h1) hu (fun x hx => hF x (List.mem_cons_of_mem _ hx))
    refine ⟨g1.congr fun x => ?_, g2, g3⟩
    simp only [List.mem_append, List.mem_cons]
    constructor
    · rintro (a | rfl | a)
      · exact Or.inl (Or.inr a)
      · exact Or.inl (Or.inl rfl)
      · exact Or.inr a
    · rintro ((rfl | a) | a)
      · exact Or.inr (Or.inl rfl)
      · exact Or.inl a
      · exact Or.inr (Or.inr a)
/-- classes -/
def clsL (s : Nat) (G : List (Nat × Bool)) : List Nat × List Int := unlAll (edges s G) (List.range (s * s), List.replicate (s * s) 1)
theorem clsL_uf {s : Nat} (hs : s ≤ 6) {G : List (Nat × Bool)} (hG : ∀ g ∈ G, g.1 < 8) : Uf (s * s) (edges s G) (lsF (clsL s G).1) (wsF (clsL s G).2) ∧ (clsL s G).1.length = s * s ∧ (clsL s G).2.length = s * s := by
  have h0 : Uf (s * s) [] (lsF (List.range (s * s))) (wsF (List.replicate (s * s) 1)) := (uf_start (s * s)).ext (fun c hc => by
    rw [lsF_at (by rw [List.length_range]; exact hc), List.getElem_range]) (fun c hc => by
    rw [wsF_at (by rw [List.length_replicate]; exact hc), List.getElem_replicate])
  have := unlAll_uf (edges s G) [] (List.range (s * s), List.replicate (s * s) 1) List.length_range List.length_replicate h0 (fun e he => by
    obtain ⟨x, y, m⟩ := e
    obtain ⟨hx, t, ht, rfl⟩ := mem_edges.1 he
    exact ⟨hx, tk_lt hs hx (hG _ ht)⟩)
  rwa [List.append_nil] at this
end Pl

/- Layer 3, plain: plates that are connected have as many signs. -/
namespace Pl

theorem conj_all : (List.range 8).all (fun t => (List.range 8).all fun u => (cmp (cmp (cmp t u) (inv t)) t == cmp t u) && (cmp (cmp (inv t) (cmp (cmp t u) (inv t))) t == u)) = true := by decide +kernel
theorem conj_one {t u : Nat} (ht : t < 8) (hu : u < 8) : cmp (cmp (cmp t u) (inv t)) t = cmp t u ∧ cmp (cmp (inv t) (cmp (cmp t u) (inv t))) t = u := by
  have := range_all (range_all conj_all ht) hu
  simpa using this
/-- a closed walk, seen from another plate -/
theorem Clo.conj {m : Int} {W : List Wk} (hW : Ok m W) {p q : Int} {t : Nat} {e : Bool} {w : List Int} (hw : ∀ k ∈ w, k ∈ stps W.length) (hr : runs (adv W) (start p) w = some ⟨q, t, e⟩) {u : Nat} {f : Bool} (h : Clo W q u f) : Clo W p (cmp (cmp t u) (Pl.inv t)) f := by
  have hs : (start p).t < 8 := by unfold start; simp only; omega
  have ht : t < 8 := (runs_in hW w _ _ hw hs hr).1
  have hu := h.lt hW
  obtain ⟨v, h1, h2⟩ := h
  obtain ⟨x, g1, g2⟩ := runs_back hW w _ _ hw hs hr
  refine ⟨w ++ (v ++ x), fun k hk => ?_, ?_⟩
  · rcases List.mem_append.1 hk with hk | hk
    · exact hw k hk
    · rcases List.mem_append.1 hk with hk | hk
      · exact h1 k hk
      · exact g1 k hk
  · have hc := cmp_lt (cmp_lt ht hu) (inv_lt ht)
    rw [runs_append, hr]
    show runs (adv W) ⟨q, t, e⟩ (v ++ x) = _
    rw [runs_append, ← mv_start ht e q, runs_mv hW ht e v _ h1 (by unfold start; simp only; omega), h2]
    show runs (adv W) (mv t e ⟨q, u, f⟩) x = _
    have e1 : mv t e ⟨q, u, f⟩ = mv (cmp (cmp t u) (Pl.inv t)) f ⟨q, t, e⟩ := by
      unfold mv
      simp only
      rw [(conj_one ht hu).1]
      cases e <;> cases f <;> rfl
    rw [e1, runs_mv hW hc f x _ g1 ht, g2, Option.map_some, mv_start hc]
theorem all16_nodup : all16.Nodup := by decide
theorem signs_nodup (W : List Wk) (p : Int) : (signs W p).Nodup := List.Pairwise.filter _ all16_nodup
theorem map_nodup {α β : Type} {f : α → β} : ∀ {l : List α}, l.Nodup → (∀ a ∈ l, ∀ b ∈ l, f a = f b → a = b) → (l.map f).Nodup
  | [], _, _ => by simp
  | a :: r, h, hf => by
    rw [List.nodup_cons] at h
    rw [List.map_cons, List.nodup_cons]
    refine ⟨fun hm => ?_, map_nodup h.2 fun x hx y hy => hf x (List.mem_cons_of_mem _ hx) y (List.mem_cons_of_mem _ hy)⟩
    obtain ⟨b, hb, e⟩ := List.mem_map.1 hm
    have := hf b (List.mem_cons_of_mem _ hb) a List.mem_cons_self e
    rw [this] at hb
    exact h.1 hb
theorem signs_le {m : Int} {W : List Wk} (hm : m ≤ 6) (hW : Ok m W) {p q : Int} (hp : 0 ≤ p ∧ p < m) (hq : 0 ≤ q ∧ q < m) {t : Nat} {e : Bool} {w : List Int} (hw : ∀ k ∈ w, k ∈ stps W.length) (hr : runs (adv W) (start p) w = some ⟨q, t, e⟩) : (signs W q).length ≤ (signs W p).length := by
  have hs : (start p).t < 8 := by unfold start; simp only; omega
  have ht : t < 8 := (runs_in hW w _ _ hw hs hr).1
  have lt : ∀ g ∈ signs W q, g.1 < 8 := (signs_grp hm hW hq).lt
  have := nodup_le (U := signs W p) (l := (signs W q).map fun g => (cmp (cmp t g.1) (inv t), g.2)) (map_nodup (signs_nodup W q) fun a ha b hb h => by
    simp only [Prod.mk.injEq] at h
    have ea := (conj_one ht (lt a ha)).2
    have eb := (conj_one ht (lt b hb)).2
    rw [h.1, eb] at ea
    exact Prod.ext ea.symm h.2) fun g hg => by
      obtain ⟨a, ha, rfl⟩ := List.mem_map.1 hg
      exact (mem_signs hm hW hp).2 (((mem_signs hm hW hq (t := a.1) (e := a.2)).1 ha).conj hW hw hr)
  simpa using this
theorem signs_same {m : Int} {W : List Wk} (hm : m ≤ 6) (hW : Ok m W) {p q : Int} (hp : 0 ≤ p ∧ p < m) {t : Nat} {e : Bool} {w : List Int} (hw : ∀ k ∈ w, k ∈ stps W.length) (hr : runs (adv W) (start p) w = some ⟨q, t, e⟩) : (signs W q).length = (signs W p).length := by
  have hs : (start p).t < 8 := by unfold start; simp only; omega
  obtain ⟨ht, hq⟩ := runs_in hW w _ _ hw hs hr
  have hq := hq hp
  obtain ⟨x, g1, g2⟩ := runs_back hW w _ _ hw hs hr
  have hx := runs_mv hW (inv_lt ht) e x ⟨q, t, e⟩ g1 ht
  rw [g2] at hx
  have e1 : mv (inv t) e ⟨q, t, e⟩ = start q := by
    unfold mv start
    simp only
    rw [(gp ht).inv']
    cases e <;> rfl
  rw [e1] at hx
  exact Nat.le_antisymm (signs_le hm hW hp hq hw hr) (signs_le hm hW hq hp g1 hx)
end Pl

/- Layer 3, plain: how many heights can be chosen, and what proves that none can. -/
namespace Pl

/-- the least cells of the classes that are not pinned -/
def evs (N : Nat) (l : Nat → Nat) (w : Nat → Int) : List Nat := (List.range N).filter fun x => decide (l x = x) && decide (w x ≠ 0)
theorem mem_evs {N : Nat} {l : Nat → Nat} {w : Nat → Int} {x : Nat} : x ∈ evs N l w ↔ x < N ∧ l x = x ∧ w x ≠ 0 := by
  unfold evs
  rw [List.mem_filter, List.mem_range, Bool.and_eq_true, decide_eq_true_eq, decide_eq_true_eq]
theorem evs_nodup (N : Nat) (l : Nat → Nat) (w : Nat → Int) : (evs N l w).Nodup := List.Pairwise.filter _ List.nodup_range
def minusIn (E : List (Nat × Nat × Bool)) : Prop := ∃ x y, (x, y, true) ∈ E
theorem jn_plus {E : List (Nat × Nat × Bool)} (h : ¬ minusIn E) {x y : Nat} {m : Bool} (j : Jn E x y m) : m = false := by
  induction j with
  | refl => rfl
  | @fwd y z m e _ hE ih =>
    rw [ih]
    cases e
    · rfl
    · exact absurd ⟨_, _, hE⟩ h
  | @bwd y z m e _ hE ih =>
    rw [ih]
    cases e
    · rfl
    · exact absurd ⟨_, _, hE⟩ h
theorem Uf.plus {N : Nat} {E : List (Nat × Nat × Bool)} {l : Nat → Nat} {w : Nat → Int} (h : Uf N E l w) (hE : ¬ minusIn E) {x : Nat} (hx : x < N) : w x = 1 := by
  rcases h.tri x hx with q | q | q
  · exact q
  · exact absurd (jn_plus hE (h.snd x true hx (Or.inr q))) (by decide)
  · exact absurd (jn_plus hE (h.snd x true hx (Or.inl q))) (by decide)
/-- without Minus: one class is left exactly if all cells are joined with the first one -/
theorem Uf.one_class {N : Nat} {E : List (Nat × Nat × Bool)} {l : Nat → Nat} {w : Nat → Int} (h : Uf N E l w) (hN : 0 < N) (hE : ¬ minusIn E) : (evs N l w).length = 1 ↔ ∀ x, x < N → Jn E 0 x false := by
  have l0 : l 0 = 0 := Nat.le_zero.1 (h.le 0 hN)
  have z : 0 ∈ evs N l w := mem_evs.2 ⟨hN, l0, by rw [h.plus hE hN]; decide⟩
  constructor
  · intro hl x hx
    have lx := Nat.lt_of_le_of_lt (h.le x hx) hx
    have r : l x ∈ evs N l w := mem_evs.2 ⟨lx, h.id x hx, by rw [h.plus hE lx]; decide⟩
    obtain ⟨a, ha⟩ := List.length_eq_one_iff.1 hl
    rw [ha] at z r
    simp only [List.mem_singleton] at z r
    exact (h.iff hN hx false).2 ⟨by omega, Or.inr (by rw [h.plus hE hN, h.plus hE hx]; rfl)⟩
  · intro hj
    have le : (evs N l w).length ≤ [0].length := nodup_le (evs_nodup N l w) fun a ha => by
      obtain ⟨h1, h2, _⟩ := mem_evs.1 ha
      have := ((h.iff hN h1 false).1 (hj a h1)).1
      simp only [List.mem_singleton]
      omega
    have := List.length_pos_of_mem z
    simp only [List.length_cons, List.length_nil] at le
    omega
/-- with Minus: no class is left exactly if each cell has an odd way back -/
theorem Uf.no_class {N : Nat} {E : List (Nat × Nat × Bool)} {l : Nat → Nat} {w : Nat → Int} (h : Uf N E l w) : (evs N l w).length = 0 ↔ ∀ x, x < N → Jn E x x true := by
  constructor
  · intro hl x hx
    have lx := Nat.lt_of_le_of_lt (h.le x hx) hx
    have e := List.length_eq_zero_iff.1 hl
    have r0 : w (l x) = 0 := Classical.byContradiction fun q => by
      have : l x ∈ evs N l w := mem_evs.2 ⟨lx, h.id x hx, q⟩
      rw [e] at this
      cases this
    exact (h.iff hx hx true).2 ⟨rfl, Or.inl (h.pin (l x) x lx hx (h.id x hx) r0)⟩
  · intro hj
    refine List.length_eq_zero_iff.2 (List.eq_nil_iff_forall_not_mem.2 fun a ha => ?_)
    obtain ⟨h1, _, h3⟩ := mem_evs.1 ha
    have := ((h.iff h1 h1 true).1 (hj a h1)).2.resolve_left h3
    rcases h.tri a h1 with q | q | q
    · rw [q] at this; cases this
    · rw [q] at this; cases this
    · exact h3 q
/-- with more edges, no class is new -/
theorem Uf.sub {N : Nat} {E F : List (Nat × Nat × Bool)} {l l' : Nat → Nat} {w w' : Nat → Int} (h : Uf N E l w) (g : Uf N F l' w') (hE : ∀ e ∈ E, e ∈ F) {r : Nat} (hr : r ∈ evs N l' w') : r ∈ evs N l w := by
  obtain ⟨h1, h2, h3⟩ := mem_evs.1 hr
  have lr := Nat.lt_of_le_of_lt (h.le r h1) h1
  have w0 : w r ≠ 0 := fun q => h3 (by
    have j := ((h.iff h1 h1 true).2 ⟨rfl, Or.inl q⟩).mono hE
    rcases ((g.iff h1 h1 true).1 j).2 with k | k
    · exact k
    · rcases g.tri r h1 with t | t | t
      · rw [t] at k; cases k
      · rw [t] at k; cases k
      · exact t)
  have j : ∃ m, Jn E r (l r) m := by
    rcases h.tri r h1 with q | q | q
    · exact ⟨false, h.snd r false h1 (Or.inr q)⟩
    · exact ⟨true, h.snd r true h1 (Or.inr q)⟩
    · exact absurd q w0
  obtain ⟨m, j⟩ := j
  have e := ((g.iff h1 lr m).1 (j.mono hE)).1
  have k := g.le (l r) lr
  have k2 := h.le r h1
  exact mem_evs.2 ⟨h1, by omega, w0⟩
theorem Uf.sub_len {N : Nat} {E F : List (Nat × Nat × Bool)} {l l' : Nat → Nat} {w w' : Nat → Int} (h : Uf N E l w) (g : Uf N F l' w') (hE : ∀ e ∈ E, e ∈ F) : (evs N l' w').length ≤ (evs N l w).length :=
  nodup_le (evs_nodup _ _ _) fun _ hr => h.sub g hE hr
theorem nodup_lt {α : Type} [DecidableEq α] {l U : List α} (hn : l.Nodup) (hs : ∀ a ∈ l, a ∈ U) {b : α} (hb : b ∈ U) (hl : b ∉ l) : l.length < U.length := by
  have := nodup_le (U := U) (l := b :: l) (List.nodup_cons.2 ⟨hl, hn⟩) fun a ha => by
    rcases List.mem_cons.1 ha with rfl | ha
    · exact hb
    · exact hs a ha
  rw [List.length_cons] at this
  exact this
/-- the first edge with Minus takes a class away -/
theorem Uf.sub_lt {N : Nat} {E F : List (Nat × Nat × Bool)} {l l' : Nat → Nat} {w w' : Nat → Int} (h : Uf N E l w) (g : Uf N F l' w') (hE : ∀ e ∈ E, e ∈ F) (hN : 0 < N) (hp : ¬ minusIn E) (hm : ∀ x, x < N → ∃ y, (x, y, true) ∈ F) : (evs N l' w').length < (evs N l w).length := by
  have key : ∃ r, r ∈ evs N l w ∧ r ∉ evs N l' w' := by
    by_cases h0 : ∃ r, r ∈ evs N l' w'
    · obtain ⟨r, hr⟩ := h0
      obtain ⟨r1, r2, r3⟩ := mem_evs.1 hr
      obtain ⟨y, hy⟩ := hm r r1
      obtain ⟨_, y1, y2, y3⟩ := g.cpl r y true hy
      have wr : w' r = 1 := by
        have := g.rt r r1
        rw [r2] at this
        exact this.resolve_right r3
      have wy : w' y = -1 := by
        have := y3.resolve_left r3
        rw [wr] at this
        simpa [sg] using this
      have ly := Nat.lt_of_le_of_lt (h.le y y1) y1
      refine ⟨l y, mem_evs.2 ⟨ly, h.id y y1, by rw [h.plus hp ly]; decide⟩, fun q => ?_⟩
      obtain ⟨_, q2, q3⟩ := mem_evs.1 q
      have j := (h.snd y false y1 (Or.inr (h.plus hp y1))).mono hE
      have k := ((g.iff y1 ly false).1 j).2
      have wl : w' (l y) = 1 := by
        have := g.rt (l y) ly
        rw [q2] at this
        exact this.resolve_right q3
      rw [wy, wl] at k
      rcases k with k | k <;> cases k
    · have l0 : l 0 = 0 := Nat.le_zero.1 (h.le 0 hN)
      exact ⟨0, mem_evs.2 ⟨hN, l0, by rw [h.plus hp hN]; decide⟩, fun q => h0 ⟨0, q⟩⟩
  obtain ⟨r, h1, h2⟩ := key
  exact nodup_lt (evs_nodup _ _ _) (fun _ hr => h.sub g hE hr) h1 h2
end Pl

/- Layer 3, plain: with more signs a proof stays one, and what can't be left out once never can. -/
namespace Pl

/-- Minus among signs -/
def minusS (G : List (Nat × Bool)) : Bool := G.any fun g => g.2
theorem minusS_in {s : Nat} {G : List (Nat × Bool)} (hs : 0 < s * s) : minusIn (edges s G) ↔ minusS G = true := by
  unfold minusIn minusS
  rw [List.any_eq_true]
  constructor
  · rintro ⟨x, y, h⟩
    obtain ⟨_, t, ht, _⟩ := mem_edges.1 h
    exact ⟨_, ht, rfl⟩
  · rintro ⟨g, hg, h⟩
    refine ⟨0, tk s g.1 0, mem_edges.2 ⟨hs, g.1, ?_, rfl⟩⟩
    rw [← h]
    exact hg
/-- how many heights can be chosen -/
def free (s : Nat) (G : List (Nat × Bool)) (l : Nat → Nat) (w : Nat → Int) : Int := (evs (s * s) l w).length - if minusS G then 0 else 1
theorem edges_mono {s : Nat} {G K : List (Nat × Bool)} (h : ∀ g ∈ G, g ∈ K) : ∀ e ∈ edges s G, e ∈ edges s K := fun e he => by
  obtain ⟨x, y, m⟩ := e
  obtain ⟨hx, t, ht, k⟩ := mem_edges.1 he
  exact mem_edges.2 ⟨hx, t, h _ ht, k⟩
/-- with more signs there is not more to choose -/
theorem free_le {s : Nat} (hs : 0 < s * s) {G K : List (Nat × Bool)} (h : ∀ g ∈ G, g ∈ K) {l l' : Nat → Nat} {w w' : Nat → Int} (hG : Uf (s * s) (edges s G) l w) (hK : Uf (s * s) (edges s K) l' w') : free s K l' w' ≤ free s G l w := by
  have h1 := hG.sub_len hK (edges_mono h)
  unfold free
  by_cases a : minusS G = true
  · have b : minusS K = true := by
      unfold minusS at a ⊢
      rw [List.any_eq_true] at a ⊢
      obtain ⟨g, hg, q⟩ := a
      exact ⟨g, h g hg, q⟩
    rw [if_pos a, if_pos b]
    omega
  · by_cases b : minusS K = true
    · have h2 := hG.sub_lt hK (edges_mono h) hs (fun q => a ((minusS_in hs).1 q)) fun x hx => by
        unfold minusS at b
        rw [List.any_eq_true] at b
        obtain ⟨g, hg, q⟩ := b
        exact ⟨tk s g.1 x, mem_edges.2 ⟨hx, g.1, by rw [← q]; exact hg, rfl⟩⟩
      rw [if_neg a, if_pos b]
      omega
    · rw [if_neg a, if_neg b]
      omega
theorem free_nonneg {s : Nat} (hs : 0 < s * s) {G : List (Nat × Bool)} {l : Nat → Nat} {w : Nat → Int} (hG : Uf (s * s) (edges s G) l w) : 0 ≤ free s G l w := by
  unfold free
  by_cases a : minusS G = true
  · rw [if_pos a]; omega
  · rw [if_neg a]
    have l0 : l 0 = 0 := Nat.le_zero.1 (hG.le 0 hs)
    have : 0 ∈ evs (s * s) l w := mem_evs.2 ⟨hs, l0, by rw [hG.plus (fun q => a ((minusS_in hs).1 q)) hs]; decide⟩
    have := List.length_pos_of_mem this
    omega

/-- what can be left out is left out, from the end on -/
def prune {α : Type} (P : List α → Bool) : Nat → List α → List α
  | 0, l => l
  | i + 1, l => prune P i (if P (l.eraseIdx i) then l.eraseIdx i else l)
theorem erase_comm {α : Type} : ∀ (l : List α) (i j : Nat), i ≤ j → (l.eraseIdx i).eraseIdx j = (l.eraseIdx (j + 1)).eraseIdx i
  | [], _, _, _ => by simp
  | a :: r, 0, j, _ => by simp
  | a :: r, i + 1, j, h => by
    obtain ⟨j, rfl⟩ : ∃ q, j = q + 1 := ⟨j - 1, by omega⟩
    simp only [List.eraseIdx_cons_succ]
    rw [erase_comm r i j (by omega)]
theorem prune_spec {α : Type} {P : List α → Bool} (mono : ∀ a b : List α, (∀ x ∈ a, x ∈ b) → P a = true → P b = true) : ∀ (i : Nat) (l : List α), P l = true → i ≤ l.length → (∀ j, i ≤ j → j < l.length → P (l.eraseIdx j) = false) →
    P (prune P i l) = true ∧ (∀ x ∈ prune P i l, x ∈ l) ∧ ∀ j, j < (prune P i l).length → P ((prune P i l).eraseIdx j) = false
  | 0, l, h, _, hj => ⟨h, fun _ hx => hx, fun j hl => hj j (Nat.zero_le _) hl⟩
  | i + 1, l, h, hi, hj => by
    unfold prune
    by_cases hp : P (l.eraseIdx i) = true
    · rw [if_pos hp]
      have hlen : (l.eraseIdx i).length = l.length - 1 := List.length_eraseIdx_of_lt (by omega)
      obtain ⟨a, b, c⟩ := prune_spec mono i (l.eraseIdx i) hp (by omega) fun j h1 h2 => by
        have k := hj (j + 1) (by omega) (by omega)
        rw [erase_comm l i j h1]
        refine Bool.eq_false_iff.2 fun q => ?_
        rw [mono _ _ (fun x hx => List.mem_of_mem_eraseIdx hx) q] at k
        cases k
      exact ⟨a, fun x hx => List.mem_of_mem_eraseIdx (b x hx), c⟩
    · rw [if_neg hp]
      refine prune_spec mono i l h (by omega) fun j h1 h2 => ?_
      rcases Nat.lt_or_ge i j with q | q
      · exact hj j q h2
      · obtain rfl : j = i := by omega
        exact Bool.eq_false_iff.2 hp
end Pl

/- Layer 3, plain: each state but the first was come to from one before. -/
namespace Pl
variable {α : Type}

def Par (f : α → Int → Option α) (acc : List (α × List Int)) : Prop := ∀ e ∈ acc, e.2 = [] ∨ ∃ x ∈ acc, ∃ t, e.2 = x.2 ++ [t] ∧ f x.1 t = some e.1
theorem Par.add [DecidableEq α] {f : α → Int → Option α} {acc : List (α × List Int)} (h : Par f acc) {x : α × List Int} (hx : x ∈ acc) (t : Int) : Par f (addS f x acc t) ∧ x ∈ addS f x acc t := by
  unfold addS
  cases hf : f x.1 t with
  | none => exact ⟨h, hx⟩
  | some y =>
    simp only
    split
    · exact ⟨h, hx⟩
    · refine ⟨fun e he => ?_, List.mem_append_left _ hx⟩
      rcases List.mem_append.1 he with he | he
      · rcases h e he with q | ⟨z, hz, u, q⟩
        · exact Or.inl q
        · exact Or.inr ⟨z, List.mem_append_left _ hz, u, q⟩
      · simp only [List.mem_singleton] at he
        subst he
        exact Or.inr ⟨x, List.mem_append_left _ hx, t, rfl, hf⟩
theorem Par.fold [DecidableEq α] {f : α → Int → Option α} {x : α × List Int} : ∀ (P : List Int) (acc : List (α × List Int)), Par f acc → x ∈ acc → Par f (P.foldl (addS f x) acc)
  | [], _, h, _ => h
  | t :: P, acc, h, hx => by
    obtain ⟨h1, h2⟩ := h.add hx t
    exact Par.fold P _ h1 h2
theorem Par.bfs [DecidableEq α] {f : α → Int → Option α} {S : List Int} : ∀ (k i : Nat) (acc : List (α × List Int)), Par f acc → Par f (bfs f S k i acc)
  | 0, _, _, h => h
  | k + 1, i, acc, h => by
    unfold Pl.bfs
    cases hx : acc[i]? with
    | none => exact h
    | some x => exact Par.bfs k (i + 1) _ (h.fold S _ (mem_at hx))
theorem par_start (f : α → Int → Option α) (s0 : α) : Par f [(s0, [])] := fun e he => by
  simp only [List.mem_singleton] at he
  subst he
  exact Or.inl rfl
/-- the walk to a state, but for its last step, is the walk to the state before -/
theorem par_last [DecidableEq α] {f : α → Int → Option α} {S : List Int} {s0 : α} {i : Nat} {R : List (α × List Int)} (h : Bf f S s0 i R) (g : Par f R) {y : α} {v : List Int} {t : Int} (hy : (y, v ++ [t]) ∈ R) : ∃ z, (z, v) ∈ R ∧ f z t = some y := by
  rcases g _ hy with q | ⟨x, hx, u, q, r⟩
  · simp at q
  · simp only at q r
    obtain ⟨e1, e2⟩ := List.append_inj' q rfl
    simp only [List.cons.injEq, and_true] at e2
    subst e2
    refine ⟨x.1, ?_, r⟩
    rw [e1]
    exact hx
/-- only the first state has no steps -/
theorem par_first {f : α → Int → Option α} {S : List Int} {s0 : α} {i : Nat} {R : List (α × List Int)} (h : Bf f S s0 i R) {y : α} {v : List Int} (hy : (y, v) ∈ R) : y = s0 ↔ v = [] := by
  constructor
  · intro e
    subst e
    exact nodup_one h.nd hy (mem_at h.hd)
  · intro e
    subst e
    have := (h.run _ hy).1
    simpa [runs] using this.symm
end Pl

/- Layer 3, plain: walksFrom's two loops, and its map of arrivals. -/
namespace Pl

/-- what the map of arrivals says of the walks that were found -/
def AccF (acc : List (St × List Int)) (f : St → Option (St × Int)) : Prop :=
  (∀ y, (f y).isSome = decide (y ∈ acc.map Prod.fst)) ∧ ∀ y v t, (y, v ++ [t]) ∈ acc → ∃ x, (x, v) ∈ acc ∧ f y = some (x, t)
theorem accF_start (s0 : St) (a : St × Int) : AccF [(s0, [])] (fun z => if z = s0 then some a else none) := by
  refine ⟨fun y => ?_, fun y v t h => ?_⟩
  · by_cases e : y = s0 <;> simp [e]
  · simp only [List.mem_singleton, Prod.mk.injEq] at h
    exact absurd h.2 (by simp)
theorem AccF.add {acc : List (St × List Int)} {f : St → Option (St × Int)} (h : AccF acc f) {x : St × List Int} (hx : x ∈ acc) (t : Int) {y : St} (hy : y ∉ acc.map Prod.fst) :
    AccF (acc ++ [(y, x.2 ++ [t])]) (fun z => if z = y then some (x.1, t) else f z) := by
  refine ⟨fun z => ?_, fun z v u hz => ?_⟩
  · by_cases e : z = y
    · simp [e]
    · have := h.1 z
      simp only [e, if_false, this, List.map_append, List.map_cons, List.map_nil, List.mem_append, List.mem_singleton, or_false]
  · rcases List.mem_append.1 hz with hz | hz
    · obtain ⟨b, hb, he⟩ := h.2 z v u hz
      refine ⟨b, List.mem_append_left _ hb, ?_⟩
      have : z ≠ y := fun e => hy (e ▸ List.mem_map.2 ⟨_, hz, rfl⟩)
      simp only [this, if_false]
      exact he
    · simp only [List.mem_singleton, Prod.mk.injEq] at hz
      obtain ⟨rfl, e⟩ := hz
      obtain ⟨e1, e2⟩ := List.append_inj' e rfl
      simp only [List.cons.injEq, and_true] at e2
      subst e2
      refine ⟨x.1, List.mem_append_left _ (by rw [e1]; exact hx), by simp⟩
theorem AccF.none {acc : List (St × List Int)} {f : St → Option (St × Int)} (h : AccF acc f) {y : St} (hy : y ∉ acc.map Prod.fst) : f y = none := by
  have := h.1 y
  rw [decide_eq_false hy] at this
  cases hf : f y with
  | none => rfl
  | some _ => rw [hf] at this; cases this
theorem AccF.some {acc : List (St × List Int)} {f : St → Option (St × Int)} (h : AccF acc f) {y : St} (hy : y ∈ acc.map Prod.fst) : (f y).isSome = true := by rw [h.1 y, decide_eq_true hy]

/-- the inner loop, behind some steps -/
def inn (L : List Wk) (x : St × List Int) (acc : List (St × List Int)) (j : Nat) : List (St × List Int) := ((stps L.length).take j).foldl (addS (adv L) x) acc
theorem inn_zero (L : List Wk) (x : St × List Int) (acc : List (St × List Int)) : inn L x acc 0 = acc := rfl
theorem stps_len (n : Nat) : (stps n).length = 2 * n := by unfold stps; simp
theorem stps_at {n j : Nat} (h : j < 2 * n) : (stps n)[j]? = some ((j : Int) - n) := by
  unfold stps
  rw [List.getElem?_map, List.getElem?_range h]
  rfl
theorem inn_succ {L : List Wk} (x : St × List Int) (acc : List (St × List Int)) {j : Nat} (h : j < 2 * L.length) : inn L x acc (j + 1) = addS (adv L) x (inn L x acc j) ((j : Int) - L.length) := by
  unfold inn
  rw [List.take_add_one, stps_at h, Option.toList_some, List.foldl_append]
  rfl
theorem inn_all (L : List Wk) (x : St × List Int) (acc : List (St × List Int)) {j : Nat} (h : 2 * L.length ≤ j) : inn L x acc j = (stps L.length).foldl (addS (adv L) x) acc := by
  unfold inn
  rw [List.take_of_length_le (by rw [stps_len]; exact h)]
theorem inn_bf {L : List Wk} {s0 : St} {i : Nat} {x : St × List Int} {acc : List (St × List Int)} (h : Bf (adv L) (stps L.length) s0 i acc) (hx : acc[i]? = some x) (j : Nat) : Bf (adv L) (stps L.length) s0 i (inn L x acc j) ∧ (inn L x acc j)[i]? = some x := by
  obtain ⟨h1, h2, _⟩ := Bf.fold ((stps L.length).take j) acc (fun t ht => List.mem_of_mem_take ht) h hx
  exact ⟨h1, h2⟩
/-- all states that are found are states of the shop -/
theorem bf_in {m : Int} {L : List Wk} (hW : Ok m L) {p : Int} (hp : 0 ≤ p ∧ p < m) {i : Nat} {acc : List (St × List Int)} (h : Bf (adv L) (stps L.length) (start p) i acc) {e : St × List Int} (he : e ∈ acc) : (0 ≤ e.1.p ∧ e.1.p < m) ∧ e.1.t < 8 := by
  obtain ⟨h1, h2⟩ := h.run e he
  have := runs_in hW e.2 _ _ h2 (by unfold start; simp only; omega) h1
  exact ⟨this.2 hp, this.1⟩
theorem bf_len {m : Int} (hm : m ≤ 6) {L : List Wk} (hW : Ok m L) {p : Int} (hp : 0 ≤ p ∧ p < m) {i : Nat} {acc : List (St × List Int)} (h : Bf (adv L) (stps L.length) (start p) i acc) : acc.length ≤ 96 := by
  have := nodup_le h.nd (U := univ m) (fun a ha => by
    obtain ⟨e, he, rfl⟩ := List.mem_map.1 ha
    exact mem_univ (bf_in hW hp h he))
  have h2 := univ_len hm
  simp at this
  omega
theorem bfs_more {L : List Wk} {i : Nat} {acc : List (St × List Int)} {x : St × List Int} (hx : acc[i]? = some x) (h : i ≤ 96) : bfs (adv L) (stps L.length) (97 - i) i acc = bfs (adv L) (stps L.length) (97 - (i + 1)) (i + 1) ((stps L.length).foldl (addS (adv L) x) acc) := by
  obtain ⟨k, hk⟩ : ∃ k, 97 - i = k + 1 := ⟨96 - i, by omega⟩
  have : 97 - (i + 1) = k := by omega
  rw [hk, this, bfs, hx]
theorem bfs_done {L : List Wk} {k i : Nat} {acc : List (St × List Int)} (h : acc.length ≤ i) : bfs (adv L) (stps L.length) k i acc = acc := by
  cases k with
  | zero => rfl
  | succ k => rw [bfs, List.getElem?_eq_none h]
end Pl
