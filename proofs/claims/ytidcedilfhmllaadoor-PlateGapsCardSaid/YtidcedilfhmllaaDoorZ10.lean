/- What the claims of layer 3 share, part 10: several texts one behind the other. -/
import Derived.Test.YtidcedilfhmllaaDoorZ09
import Derived.Lib.AtoiAll
import Derived.Lib.ItoaNum
import Derived.Lib.ItoaLen
import Derived.Lib.ItoaMem
import Derived.Lib.IndexMore
import Derived.Lib.Split
import Derived.Test.YtidcedilfhmllaaDoorZ03
set_option linter.unusedSimpArgs false
set_option linter.unusedVariables false
/- The mathematics of the texts of systems: what chain's Print writes, and what its Parse reads. -/
namespace Tx
open Go.Lib

def isDig (c : UInt8) : Prop := 48 ≤ c.toNat ∧ c.toNat ≤ 57

def dstep (acc : Nat) (c : UInt8) : Nat := acc * 10 + (c.toNat - 48)
def dval (acc : Nat) (l : List UInt8) : Nat := l.foldl dstep acc
theorem dval_nil (acc : Nat) : dval acc [] = acc := rfl
theorem dval_cons (acc : Nat) (c : UInt8) (r : List UInt8) : dval acc (c :: r) = dval (dstep acc c) r := by unfold dval; rw [List.foldl_cons]
theorem dval_snoc (l : List UInt8) (acc : Nat) (c : UInt8) : dval acc (l ++ [c]) = dstep (dval acc l) c := by
  unfold dval; rw [List.foldl_append, List.foldl_cons, List.foldl_nil]

theorem dval_le : ∀ (l : List UInt8) (acc : Nat), acc ≤ dval acc l
  | [], acc => by rw [dval_nil]; exact Nat.le_refl _
  | x :: xs, acc => by have := dval_le xs (dstep acc x); rw [dval_cons]; unfold dstep at this ⊢; omega

theorem dig_toNat {k : Nat} (h : k < 10) : (UInt8.ofNat (48 + k)).toNat = 48 + k := by
  rw [UInt8.toNat_ofNat']; omega

theorem decDigits_dig (u : Nat) : ∀ c ∈ decDigits u, isDig c := by
  induction u using Nat.strongRecOn with
  | _ u ih =>
    intro c hc
    rw [decDigits] at hc
    split at hc
    · rw [List.mem_singleton] at hc; subst hc; unfold isDig; rw [dig_toNat (by assumption)]; omega
    · rcases List.mem_append.1 hc with h | h
      · exact ih _ (by omega) c h
      · rw [List.mem_singleton] at h; subst h; unfold isDig; rw [dig_toNat (by omega)]; omega

theorem decDigits_val (u : Nat) : dval 0 (decDigits u) = u := by
  induction u using Nat.strongRecOn with
  | _ u ih =>
    rw [decDigits]
    split
    · rename_i h; rw [dval_cons, dval_nil, dstep, dig_toNat h]; omega
    · rw [dval_snoc, ih _ (by omega), dstep, dig_toNat (by omega)]; omega

theorem decDigits_len (u : Nat) : (decDigits u).length = nDigits u := by rw [decDigits_eq]; simp
theorem decDigits_ne (u : Nat) : decDigits u ≠ [] := by
  intro h; have := decDigits_len u; rw [h] at this; have := nDigits_pos u; simp at *; omega

theorem nDigits_le10 {u : Nat} (h : u < 10000000000) : nDigits u ≤ 10 := by
  rcases Nat.lt_or_ge 10 (nDigits u) with h1 | h1
  · exfalso
    have h2 : 10 ^ 10 ≤ u := by
      have key : ∀ k u, k + 1 ≤ nDigits u → 1 ≤ k → 10 ^ k ≤ u := by
        intro k
        induction k with
        | zero => intro u _ h; omega
        | succ k ih =>
          intro u h _
          by_cases hu : u < 10
          · rw [nDigits_small hu] at h; omega
          · rw [nDigits_big hu] at h
            cases k with
            | zero => simp; omega
            | succ k =>
              have := ih (u / 10) (by omega) (by omega)
              rw [Nat.pow_succ]; omega
      exact key 10 u (by omega) (by omega)
    simp at h2; omega
  · exact h1

theorem parse_val : ∀ (l : List UInt8) (acc : Nat), (∀ c ∈ l, isDig c) → dval acc l < 9223372036854775808 → parseUint10 acc l = .ok (dval acc l)
  | [], acc, _, _ => by rw [parseUint10, dval_nil]
  | c :: r, acc, hd, hv => by
    have hc := hd c List.mem_cons_self
    have hle := dval_le r (dstep acc c)
    have e : dstep acc c = acc * 10 + (c.toNat - 48) := by rw [dstep]
    rw [dval_cons] at hv ⊢
    unfold isDig at hc
    rw [parseUint10, if_pos hc, if_neg (by omega), if_neg (by omega), ← e]
    exact parse_val r _ (fun x hx => hd x (List.mem_cons_of_mem _ hx)) hv

theorem parseMag_dec {u : Nat} (h : u < 9223372036854775808) : parseMag (decDigits u) = .ok u := by
  unfold parseMag
  rw [if_neg (decDigits_ne u), parse_val _ _ (decDigits_dig u) (by rw [decDigits_val]; exact h), decDigits_val]

theorem atoi_itoa {n : Int} (h0 : -9223372036854775808 < n) (h1 : n < 9223372036854775808) : atoiAll (itoa n) = .ok n := by
  unfold itoa
  split
  · rename_i hn
    simp only [atoiAll]
    rw [if_pos (by decide), parseMag_dec (by omega)]
    simp only
    rw [if_neg (by simp), if_neg (by simp; omega), if_pos (by simp)]
    congr 1; omega
  · rename_i hn
    obtain ⟨c, r, e⟩ : ∃ c r, decDigits n.toNat = c :: r := by
      cases h : decDigits n.toNat with
      | nil => exact (decDigits_ne _ h).elim
      | cons c r => exact ⟨c, r, rfl⟩
    have hc : isDig c := decDigits_dig n.toNat c (by rw [e]; exact List.mem_cons_self)
    unfold isDig at hc
    rw [e]
    simp only [atoiAll]
    rw [if_neg (by omega), ← e, parseMag_dec (by omega)]
    simp only
    rw [if_neg (by omega), if_neg (by omega), if_neg (by omega)]
    congr 1; omega

theorem atoi_range {l : List UInt8} {n : Int} (h : atoiAll l = .ok n) : -9223372036854775808 ≤ n ∧ n ≤ 9223372036854775807 := by
  unfold atoiAll at h
  cases l with
  | nil => cases h
  | cons c r =>
    simp only at h
    split at h
    · cases h
    · cases h
    · split at h
      · cases h
      · split at h
        · cases h
        · rename_i u _ h1 h2
          simp only [NumEnd.ok.injEq] at h
          subst h
          by_cases hn : c.toNat = 45 <;> simp [hn] at h1 h2 ⊢ <;> omega

theorem itoa_no {c : UInt8} (h45 : c ≠ 45) (hd : ¬ isDig c) (n : Int) : c ∉ itoa n := by
  intro h
  unfold itoa at h
  split at h
  · rcases List.mem_cons.1 h with h | h
    · exact h45 h
    · exact hd (decDigits_dig _ _ h)
  · exact hd (decDigits_dig _ _ h)
theorem itoa_no10 (n : Int) : (10 : UInt8) ∉ itoa n := itoa_no (by decide) (by unfold isDig; decide) n
theorem itoa_no32 (n : Int) : (32 : UInt8) ∉ itoa n := itoa_no (by decide) (by unfold isDig; decide) n
theorem itoa_ne (n : Int) : itoa n ≠ [] := by
  unfold itoa
  split
  · exact fun h => by cases h
  · exact decDigits_ne _

/-- the first place of a byte -/
theorem index_at {c : UInt8} : ∀ (a b : List UInt8), c ∉ a → index (a ++ c :: b) [c] = a.length
  | [], b, _ => by simp [index, List.isPrefixOf]
  | x :: xs, b, h => by
    have hx : c ≠ x := fun e => h (by rw [e]; exact List.mem_cons_self)
    have i := index_at xs b (fun hm => h (List.mem_cons_of_mem _ hm))
    rw [List.cons_append, index, i]
    have : ((xs.length : Int) == -1) = false := by rw [beq_eq_false_iff_ne]; omega
    simp [List.isPrefixOf, hx, this]
theorem index_no {c : UInt8} : ∀ a : List UInt8, c ∉ a → index a [c] = -1
  | [], _ => by simp [index]
  | x :: xs, h => by
    have hx : c ≠ x := fun e => h (by rw [e]; exact List.mem_cons_self)
    have i := index_no xs (fun hm => h (List.mem_cons_of_mem _ hm))
    rw [index, i]
    simp [List.isPrefixOf, hx]
theorem byte_cases (c : UInt8) : ∀ s : List UInt8, c ∉ s ∨ ∃ a b, s = a ++ c :: b ∧ c ∉ a
  | [] => Or.inl (by simp)
  | x :: xs => by
    by_cases hx : c = x
    · exact Or.inr ⟨[], xs, by rw [hx]; rfl, by simp⟩
    · rcases byte_cases c xs with h | ⟨a, b, h, h2⟩
      · exact Or.inl (by simp [hx, h])
      · exact Or.inr ⟨x :: a, b, by rw [h]; rfl, by simp [hx, h2]⟩
theorem cut_no {c : UInt8} {a : List UInt8} (h : c ∉ a) : cut a [c] = (a, [], false) := by
  unfold cut; rw [index_no a h, if_neg (by omega)]
theorem cut_at {c : UInt8} {a : List UInt8} (b : List UInt8) (h : c ∉ a) : cut (a ++ c :: b) [c] = (a, b, true) := by
  unfold cut; rw [index_at a b h, if_pos (by omega)]
  simp
theorem splitK_no {c : UInt8} {a : List UInt8} (k : Nat) (h : c ∉ a) : splitK [c] 0 k a = [a] := by
  cases k with
  | zero => rfl
  | succ k => unfold splitK; rw [index_no a h]; rfl
theorem splitK_at {c : UInt8} {a : List UInt8} (k : Nat) (b : List UInt8) (h : c ∉ a) : splitK [c] 0 (k + 1) (a ++ c :: b) = a :: splitK [c] 0 k b := by
  have e : ((a.length : Int) == -1) = false := by rw [beq_eq_false_iff_ne]; omega
  show (if index (a ++ c :: b) [c] == -1 then [a ++ c :: b] else (a ++ c :: b).take ((index (a ++ c :: b) [c]).toNat + 0) :: splitK [c] 0 k ((a ++ c :: b).drop ((index (a ++ c :: b) [c]).toNat + [c].length))) = _
  rw [index_at a b h, e]
  simp

/-- pieces, with a byte between -/
def jn (c : UInt8) : List (List UInt8) → List UInt8
  | [] => []
  | [a] => a
  | a :: b :: r => a ++ c :: jn c (b :: r)
theorem splitK_ne (c : UInt8) (k : Nat) (s : List UInt8) : splitK [c] 0 k s ≠ [] := by
  cases k with
  | zero => exact fun h => by cases h
  | succ k =>
    unfold splitK
    split <;> exact fun h => by cases h
theorem jn_cons (c : UInt8) (a : List UInt8) {l : List (List UInt8)} (h : l ≠ []) : jn c (a :: l) = a ++ c :: jn c l := by
  cases l with
  | nil => exact (h rfl).elim
  | cons b r => rfl
theorem splitK_jn (c : UInt8) : ∀ (k : Nat) (s : List UInt8), jn c (splitK [c] 0 k s) = s
  | 0, s => rfl
  | k + 1, s => by
    rcases byte_cases c s with h | ⟨a, b, rfl, h⟩
    · rw [splitK_no _ h]; rfl
    · rw [splitK_at k b h, jn_cons _ _ (splitK_ne _ _ _), splitK_jn c k b]
theorem jn_splitK (c : UInt8) : ∀ (l : List (List UInt8)) (k : Nat), l ≠ [] → (∀ a ∈ l, c ∉ a) → l.length ≤ k + 1 → splitK [c] 0 k (jn c l) = l
  | [], _, h, _, _ => (h rfl).elim
  | [a], k, _, h, _ => splitK_no k (h a List.mem_cons_self)
  | a :: b :: r, k, _, h, hk => by
    obtain ⟨k, rfl⟩ : ∃ j, k = j + 1 := ⟨k - 1, by simp only [List.length_cons] at hk; omega⟩
    show splitK [c] 0 (k + 1) (a ++ c :: jn c (b :: r)) = _
    rw [splitK_at k _ (h a List.mem_cons_self), jn_splitK c (b :: r) k (by simp) (fun x hx => h x (List.mem_cons_of_mem _ hx)) (by simp only [List.length_cons] at hk ⊢; omega)]
theorem jn_len (c : UInt8) : ∀ l : List (List UInt8), l.length ≤ (jn c l).length + 1
  | [] => by simp
  | [a] => by simp [jn]
  | a :: b :: r => by
    have := jn_len c (b :: r)
    simp only [jn, List.length_cons, List.length_append] at this ⊢
    omega
theorem jn_no (c d : UInt8) (hcd : d ≠ c) : ∀ l : List (List UInt8), (∀ a ∈ l, d ∉ a) → d ∉ jn c l
  | [], _ => by simp [jn]
  | [a], h => h a List.mem_cons_self
  | a :: b :: r, h => by
    have i := jn_no c d hcd (b :: r) (fun x hx => h x (List.mem_cons_of_mem _ hx))
    have h0 := h a List.mem_cons_self
    simp only [jn, List.mem_append, List.mem_cons, not_or]
    exact ⟨h0, hcd, i⟩

/-- the numbers of words that are written as Itoa writes them -/
def nums : List (List UInt8) → Option (List Int)
  | [] => some []
  | w :: r => match atoiAll w with
    | .ok n => if itoa n = w then (nums r).map (n :: ·) else none
    | _ => none
theorem nums_some : ∀ {ws : List (List UInt8)} {ns : List Int}, nums ws = some ns → ws = ns.map itoa ∧ ∀ n ∈ ns, -9223372036854775808 ≤ n ∧ n ≤ 9223372036854775807
  | [], ns, h => by simp only [nums, Option.some.injEq] at h; subst h; simp
  | w :: r, ns, h => by
    simp only [nums] at h
    split at h
    · rename_i n hn
      split at h
      · rename_i hw
        cases hr : nums r with
        | none => rw [hr] at h; cases h
        | some q =>
          rw [hr] at h
          simp only [Option.map_some, Option.some.injEq] at h
          subst h
          obtain ⟨i, j⟩ := nums_some hr
          exact ⟨by rw [List.map_cons, hw, ← i], fun x hx => by
            rcases List.mem_cons.1 hx with rfl | hx
            · exact atoi_range hn
            · exact j x hx⟩
      · cases h
    · cases h
theorem nums_map : ∀ (ns : List Int), (∀ n ∈ ns, -9223372036854775808 < n ∧ n < 9223372036854775808) → nums (ns.map itoa) = some ns
  | [], _ => rfl
  | n :: r, h => by
    have hn := h n List.mem_cons_self
    rw [List.map_cons, nums, atoi_itoa hn.1 hn.2]
    simp only [if_pos]
    rw [nums_map r (fun x hx => h x (List.mem_cons_of_mem _ hx))]
    rfl

/-- readLine -/
def rl (line word : List UInt8) (count : Nat) : Option (List Int) :=
  if (splitN line [32] (count + 2)).length = count + 1 ∧ (splitN line [32] (count + 2)).head? = some word then nums (splitN line [32] (count + 2)).tail else none
theorem rl_some {line word : List UInt8} {count : Nat} {ns : List Int} (h : rl line word count = some ns) : ns.length = count ∧ line = jn 32 (word :: ns.map itoa) ∧ ∀ n ∈ ns, -9223372036854775808 ≤ n ∧ n ≤ 9223372036854775807 := by
  unfold rl at h
  split at h
  · rename_i hc
    obtain ⟨h1, h2⟩ := hc
    have hj : jn 32 (splitN line [32] (count + 2)) = line := splitK_jn _ _ _
    cases hs : splitN line [32] (count + 2) with
    | nil => rw [hs] at h2; cases h2
    | cons a r =>
      rw [hs] at h h1 h2 hj
      simp only [List.head?_cons, Option.some.injEq] at h2
      subst h2
      obtain ⟨i, j⟩ := nums_some (ws := r) h
      refine ⟨?_, ?_, j⟩
      · have := congrArg List.length i
        simp only [List.length_map, List.length_cons] at this h1
        omega
      · rw [← i]; exact hj.symm
  · cases h
theorem rl_jn {word : List UInt8} (hw : (32 : UInt8) ∉ word) (ns : List Int) (h : ∀ n ∈ ns, -9223372036854775808 < n ∧ n < 9223372036854775808) : rl (jn 32 (word :: ns.map itoa)) word ns.length = some ns := by
  have hs : splitN (jn 32 (word :: ns.map itoa)) [32] (ns.length + 2) = word :: ns.map itoa := by
    unfold splitN
    refine jn_splitK 32 _ _ (by simp) (fun a ha => ?_) ?_
    · rcases List.mem_cons.1 ha with rfl | ha
      · exact hw
      · obtain ⟨n, _, rfl⟩ := List.mem_map.1 ha
        exact itoa_no32 n
    · have := jn_len 32 (word :: ns.map itoa)
      simp only [List.length_cons, List.length_map] at this ⊢
      omega
  unfold rl
  rw [hs, if_pos (by simp)]
  exact nums_map ns h

def nodesB : List UInt8 := [110, 111, 100, 101, 115]
def linkB : List UInt8 := [108, 105, 110, 107]
def line1 (l : Ch.Lk) : List UInt8 := jn 32 (linkB :: [l.f, l.t, l.m].map itoa)
/-- the text of a system -/
def prt (n : Int) (L : List Ch.Lk) : List UInt8 := jn 32 (nodesB :: [n].map itoa) ++ 10 :: L.flatMap fun l => line1 l ++ [10]
/-- read's loop -/
def rdGo : Nat → List UInt8 → List Ch.Lk → Option (List Ch.Lk)
  | 0, _, _ => none
  | k + 1, rest, acc =>
    if rest = [] then some acc
    else match rl (cut rest [10]).1 linkB 3 with
      | some [f, t, m] => if (cut rest [10]).2.2 = true ∧ acc.length ≠ 300 then rdGo k (cut rest [10]).2.1 (acc ++ [⟨f, t, m⟩]) else none
      | _ => none
def rdT (s : List UInt8) : Option (Int × List Ch.Lk) :=
  match rl (cut s [10]).1 nodesB 1 with
  | some [n] => if (cut s [10]).2.2 = true then (rdGo ((cut s [10]).2.1.length + 1) (cut s [10]).2.1 []).map fun L => (n, L) else none
  | _ => none

theorem line_no10 (w : List UInt8) (h : (10 : UInt8) ∉ w) (ns : List Int) : (10 : UInt8) ∉ jn 32 (w :: ns.map itoa) := by
  refine jn_no 32 10 (by decide) _ (fun a ha => ?_)
  rcases List.mem_cons.1 ha with rfl | ha
  · exact h
  · obtain ⟨n, _, rfl⟩ := List.mem_map.1 ha
    exact itoa_no10 n
theorem line1_no10 (l : Ch.Lk) : (10 : UInt8) ∉ line1 l := line_no10 linkB (by decide) _
def R64 (n : Int) : Prop := -9223372036854775808 < n ∧ n < 9223372036854775808
theorem rl_line1 (l : Ch.Lk) (h : R64 l.f ∧ R64 l.t ∧ R64 l.m) : rl (line1 l) linkB 3 = some [l.f, l.t, l.m] :=
  rl_jn (word := linkB) (by decide) [l.f, l.t, l.m] (fun n hn => by
    simp only [List.mem_cons, List.not_mem_nil, or_false] at hn
    rcases hn with rfl | rfl | rfl
    · exact h.1
    · exact h.2.1
    · exact h.2.2)

theorem rdGo_prt : ∀ (L : List Ch.Lk) (k : Nat) (acc : List Ch.Lk), (∀ l ∈ L, R64 l.f ∧ R64 l.t ∧ R64 l.m) → acc.length + L.length ≤ 300 → (L.flatMap fun l => line1 l ++ [10]).length < k → rdGo k (L.flatMap fun l => line1 l ++ [10]) acc = some (acc ++ L)
  | [], k, acc, _, _, hk => by
    obtain ⟨k, rfl⟩ : ∃ j, k = j + 1 := ⟨k - 1, by omega⟩
    simp [rdGo]
  | l :: r, k, acc, h, hl, hk => by
    obtain ⟨k, rfl⟩ : ∃ j, k = j + 1 := ⟨k - 1, by omega⟩
    have e : ((l :: r).flatMap fun l => line1 l ++ [10]) = line1 l ++ 10 :: (r.flatMap fun l => line1 l ++ [10]) := by simp
    rw [e] at hk ⊢
    have hc := cut_at (c := 10) (a := line1 l) (r.flatMap fun l => line1 l ++ [10]) (line1_no10 l)
    unfold rdGo
    rw [if_neg (by simp), hc]
    simp only [List.length_cons, List.length_append] at hl hk
    simp only [rl_line1 l (h l List.mem_cons_self)]
    rw [if_pos ⟨trivial, by omega⟩, rdGo_prt r k _ (fun x hx => h x (List.mem_cons_of_mem _ hx)) (by simp; omega) (by omega)]
    simp
theorem rdGo_some : ∀ (k : Nat) (rest : List UInt8) (acc L : List Ch.Lk), rdGo k rest acc = some L → acc.length ≤ 300 → ∃ M, L = acc ++ M ∧ rest = (M.flatMap fun l => line1 l ++ [10]) ∧ L.length ≤ 300
  | 0, _, _, _, h, _ => by cases h
  | k + 1, rest, acc, L, h, ha => by
    unfold rdGo at h
    split at h
    · rename_i he
      simp only [Option.some.injEq] at h
      subst h
      exact ⟨[], by simp, by rw [he]; rfl, ha⟩
    · split at h
      · rename_i f t m hr
        split at h
        · rename_i hc
          rcases byte_cases 10 rest with h0 | ⟨a, b, rfl, h0⟩
          · rw [cut_no h0] at hc
            exact absurd hc.1 (by simp)
          · rw [cut_at b h0] at hr h
            obtain ⟨M, h1, h2, h3⟩ := rdGo_some k b _ L h (by have := hc.2; simp; omega)
            obtain ⟨_, h4, _⟩ := rl_some hr
            refine ⟨⟨f, t, m⟩ :: M, by rw [h1]; simp, ?_, h3⟩
            simp only at h4 h2
            rw [h2, h4]
            simp [line1]
        · cases h
      · cases h
/-- what is written is read again -/
theorem rd_prt (n : Int) (L : List Ch.Lk) (hn : R64 n) (h : ∀ l ∈ L, R64 l.f ∧ R64 l.t ∧ R64 l.m) (hl : L.length ≤ 300) : rdT (prt n L) = some (n, L) := by
  have hc := cut_at (c := 10) (a := jn 32 (nodesB :: [n].map itoa)) (L.flatMap fun l => line1 l ++ [10]) (line_no10 nodesB (by decide) [n])
  have hr : rl (jn 32 (nodesB :: [n].map itoa)) nodesB 1 = some [n] := rl_jn (word := nodesB) (by decide) [n] (fun x hx => by
    simp only [List.mem_cons, List.not_mem_nil, or_false] at hx
    subst hx
    exact hn)
  unfold rdT prt
  rw [hc]
  simp only [hr]
  rw [if_pos trivial, rdGo_prt L _ [] h (by simpa using hl) (Nat.lt_succ_self _)]
  simp
/-- what is read was written -/
theorem prt_rd {s : List UInt8} {n : Int} {L : List Ch.Lk} (h : rdT s = some (n, L)) : prt n L = s ∧ L.length ≤ 300 := by
  unfold rdT at h
  split at h
  · rename_i x hr
    split at h
    · rename_i hc
      rcases byte_cases 10 s with h0 | ⟨a, b, rfl, h0⟩
      · rw [cut_no h0] at hc
        cases hc
      · rw [cut_at b h0] at hr h
        cases hg : rdGo (b.length + 1) b [] with
        | none => simp only at h; rw [hg] at h; cases h
        | some M =>
          simp only at h
          rw [hg] at h
          simp only [Option.map_some, Option.some.injEq, Prod.mk.injEq] at h
          obtain ⟨rfl, rfl⟩ := h
          obtain ⟨Q, h1, h2, h3⟩ := rdGo_some _ b [] _ hg (by simp)
          simp only [List.nil_append] at h1
          subst h1
          obtain ⟨_, h4, _⟩ := rl_some hr
          refine ⟨?_, h3⟩
          unfold prt
          rw [← h2]
          simp only at h4
          rw [h4]
    · cases h
  · cases h
end Tx

/- Plain: what a line of numbers is. -/
namespace Tx
/-- numbers, a blank ahead of each -/
def sp (ns : List Int) : List UInt8 := ns.flatMap fun n => 32 :: Go.Lib.itoa n
theorem jn_sp : ∀ (w : List UInt8) (ns : List Int), jn 32 (w :: ns.map Go.Lib.itoa) = w ++ sp ns
  | w, [] => by simp [jn, sp]
  | w, n :: r => by
    have := jn_sp (Go.Lib.itoa n) r
    rw [List.map_cons]
    show w ++ 32 :: jn 32 (Go.Lib.itoa n :: r.map Go.Lib.itoa) = _
    rw [this]
    simp [sp]
theorem sp_take {ns : List Int} {k : Nat} (h : k < ns.length) : sp (ns.take (k + 1)) = sp (ns.take k) ++ (32 :: Go.Lib.itoa (ns.getD k 0)) := by
  unfold sp
  rw [List.take_succ_eq_append_getElem h, List.flatMap_append]
  simp [h]
theorem sp_len : ∀ (ns : List Int), (∀ n ∈ ns, -9223372036854775808 ≤ n ∧ n ≤ 9223372036854775807) → (sp ns).length ≤ 22 * ns.length
  | [], _ => by simp [sp]
  | n :: r, h => by
    have i := sp_len r (fun x hx => h x (List.mem_cons_of_mem _ hx))
    have hn := h n List.mem_cons_self
    have := Go.Lib.itoa_length_le n hn.1 hn.2
    simp only [sp, List.flatMap_cons, List.length_append, List.length_cons] at i ⊢
    omega
end Tx

/- Layer 3, plain: the texts of shops. -/
namespace Pl
open Go.Lib Tx

/-- the number of a word, whatever it is -/
def atoiV (l : List UInt8) : Int := match atoiAll l with
  | .ok n => n
  | .syntax => 0
  | .range => atoiSat l
/-- numbersOf -/
def numsOf (line : List UInt8) : Int × Int × Int :=
  (atoiV (cut (cut line [32]).2.1 [32]).1, atoiV (cut (cut (cut line [32]).2.1 [32]).2.1 [32]).1, atoiV (cut (cut (cut (cut line [32]).2.1 [32]).2.1 [32]).2.1 [32]).1)
def shopB : List UInt8 := [115, 104, 111, 112]
def workB : List UInt8 := [119, 111, 114, 107]
def lineW (w : Wk) : List UInt8 := jn 32 (workB :: [w.a, w.b, w.t].map itoa)
def prtP (side m : Int) (W : List Wk) : List UInt8 := jn 32 (shopB :: [side, m].map itoa) ++ 10 :: W.flatMap fun w => lineW w ++ [10]
/-- read's loop; k counts from 17 down -/
def rdPGo : Nat → List UInt8 → List Wk → List Wk
  | 0, _, acc => acc
  | k + 1, rest, acc => if rest = [] then acc else rdPGo k (cut rest [10]).2.1 (acc ++ [⟨(numsOf (cut rest [10]).1).1, (numsOf (cut rest [10]).1).2.1, (numsOf (cut rest [10]).1).2.2⟩])
def rdP (s : List UInt8) : Int × Int × List Wk := ((numsOf (cut s [10]).1).1, (numsOf (cut s [10]).1).2.1, rdPGo 17 (cut s [10]).2.1 [])
/-- Parse -/
def prsP (s : List UInt8) : Option (Int × Int × List Wk) :=
  if chk (rdP s).1 (rdP s).2.1 (rdP s).2.2 = 0 ∧ prtP (rdP s).1 (rdP s).2.1 (rdP s).2.2 = s then some (rdP s) else none
theorem atoiV_itoa {n : Int} (h : R64 n) : atoiV (itoa n) = n := by
  unfold atoiV
  rw [atoi_itoa h.1 h.2]
theorem numsOf_line {w : Wk} (h : R64 w.a ∧ R64 w.b ∧ R64 w.t) : numsOf (lineW w) = (w.a, w.b, w.t) := by
  have e : lineW w = workB ++ 32 :: (itoa w.a ++ 32 :: (itoa w.b ++ 32 :: itoa w.t)) := rfl
  unfold numsOf
  rw [e, cut_at _ (show (32 : UInt8) ∉ workB by decide)]
  simp only
  rw [cut_at _ (itoa_no32 w.a)]
  simp only
  rw [cut_at _ (itoa_no32 w.b)]
  simp only
  rw [cut_no (itoa_no32 w.t)]
  simp only
  rw [atoiV_itoa h.1, atoiV_itoa h.2.1, atoiV_itoa h.2.2]
theorem numsOf_shop {side m : Int} (h : R64 side ∧ R64 m) : (numsOf (jn 32 (shopB :: [side, m].map itoa))).1 = side ∧ (numsOf (jn 32 (shopB :: [side, m].map itoa))).2.1 = m := by
  have e : jn 32 (shopB :: [side, m].map itoa) = shopB ++ 32 :: (itoa side ++ 32 :: itoa m) := rfl
  unfold numsOf
  rw [e, cut_at _ (show (32 : UInt8) ∉ shopB by decide)]
  simp only
  rw [cut_at _ (itoa_no32 side)]
  simp only
  rw [cut_no (itoa_no32 m)]
  simp only
  exact ⟨atoiV_itoa h.1, atoiV_itoa h.2⟩
theorem rdPGo_prt : ∀ (W : List Wk) (k : Nat) (acc : List Wk), (∀ w ∈ W, R64 w.a ∧ R64 w.b ∧ R64 w.t) → W.length < k → rdPGo k (W.flatMap fun w => lineW w ++ [10]) acc = acc ++ W
  | [], k, acc, _, hk => by
    obtain ⟨k, rfl⟩ : ∃ j, k = j + 1 := ⟨k - 1, by omega⟩
    simp [rdPGo]
  | w :: r, k, acc, h, hk => by
    obtain ⟨k, rfl⟩ : ∃ j, k = j + 1 := ⟨k - 1, by omega⟩
    have e : ((w :: r).flatMap fun w => lineW w ++ [10]) = lineW w ++ 10 :: (r.flatMap fun w => lineW w ++ [10]) := by simp
    rw [e]
    unfold rdPGo
    have hn : (10 : UInt8) ∉ lineW w := line_no10 workB (by decide) [w.a, w.b, w.t]
    rw [if_neg (by simp), cut_at (c := 10) (a := lineW w) _ hn]
    simp only
    rw [numsOf_line (h w List.mem_cons_self)]
    simp only [List.length_cons] at hk
    rw [rdPGo_prt r k _ (fun x hx => h x (List.mem_cons_of_mem _ hx)) (by omega)]
    simp
theorem rdP_prt {side m : Int} {W : List Wk} (h : chk side m W = 0) : rdP (prtP side m W) = (side, m, W) := by
  obtain ⟨h1, h2, h3, h4⟩ := chk_ok h
  have hw : ∀ w ∈ W, R64 w.a ∧ R64 w.b ∧ R64 w.t := fun w hw => by
    obtain ⟨i, hi, rfl⟩ := List.getElem_of_mem hw
    have e : W.getD i noW = W[i] := by rw [List.getD, List.getElem?_eq_getElem hi]; rfl
    have ok := okW_spec (h4 i hi)
    rw [e] at ok
    unfold R64
    omega
  obtain ⟨a, b⟩ := numsOf_shop (side := side) (m := m) (by unfold R64; omega)
  unfold rdP prtP
  rw [cut_at _ (line_no10 shopB (by decide) [side, m])]
  simp only
  rw [a, b, rdPGo_prt W 17 [] hw (by omega)]
  rfl
theorem prsP_prt {side m : Int} {W : List Wk} (h : chk side m W = 0) : prsP (prtP side m W) = some (side, m, W) := by
  unfold prsP
  rw [rdP_prt h]
  simp only
  rw [if_pos ⟨h, trivial⟩]
theorem prsP_some {s : List UInt8} {side m : Int} {W : List Wk} (h : prsP s = some (side, m, W)) : chk side m W = 0 ∧ prtP side m W = s := by
  unfold prsP at h
  split at h
  · rename_i hc
    simp only [Option.some.injEq] at h
    rw [h] at hc
    exact hc
  · cases h

/-- the specification's Parse: all numbers have one digit -/
def at8 (s : List UInt8) (i : Nat) : Int := ((s.getD i 0).toNat : Int) - 48
def wkGo (s : List UInt8) : Nat → Nat → List Wk → List Wk
  | 0, _, acc => acc
  | k + 1, p, acc => if p + 11 ≤ s.length then wkGo s k (p + 11) (acc ++ [⟨at8 s (p + 5), at8 s (p + 7), at8 s (p + 9)⟩]) else acc
def rprsP (s : List UInt8) : Option (Int × Int × List Wk) :=
  if s.length < 9 then none
  else if chk (at8 s 5) (at8 s 7) (wkGo s 17 9 []) = 0 ∧ prtP (at8 s 5) (at8 s 7) (wkGo s 17 9 []) = s then some (at8 s 5, at8 s 7, wkGo s 17 9 []) else none
theorem itoa_dig {n : Int} (h0 : 0 ≤ n) (h9 : n ≤ 9) : itoa n = [UInt8.ofNat (48 + n.toNat)] := by
  unfold itoa
  rw [if_neg (by omega), decDigits, dif_pos (by omega)]
theorem at8_drop {s : List UInt8} {p i : Nat} {l : List UInt8} (h : s.drop p = l) : at8 s (p + i) = at8 l i := by
  subst h
  unfold at8
  rw [List.getD, List.getD, List.getElem?_drop]
theorem dig_val {n : Int} (h0 : 0 ≤ n) (h9 : n ≤ 9) : (((UInt8.ofNat (48 + n.toNat)).toNat : Nat) : Int) - 48 = n := by
  rw [UInt8.toNat_ofNat']
  omega
theorem wkGo_prt (s : List UInt8) : ∀ (W : List Wk) (k p : Nat) (acc : List Wk), (∀ w ∈ W, (0 ≤ w.a ∧ w.a ≤ 9) ∧ (0 ≤ w.b ∧ w.b ≤ 9) ∧ 0 ≤ w.t ∧ w.t ≤ 9) → W.length ≤ k → p ≤ s.length → s.drop p = (W.flatMap fun w => lineW w ++ [10]) → wkGo s k p acc = acc ++ W
  | [], k, p, acc, _, _, hp, h => by
    have hl := congrArg List.length h
    simp at hl
    cases k with
    | zero => simp [wkGo]
    | succ k => rw [wkGo, if_neg (by omega)]; simp
  | w :: r, k, p, acc, hW, hk, hp, h => by
    obtain ⟨k, rfl⟩ : ∃ j, k = j + 1 := ⟨k - 1, by simp only [List.length_cons] at hk; omega⟩
    obtain ⟨⟨a1, a2⟩, ⟨b1, b2⟩, c1, c2⟩ := hW w List.mem_cons_self
    have e : ((w :: r).flatMap fun w => lineW w ++ [10]) = [119, 111, 114, 107, 32, UInt8.ofNat (48 + w.a.toNat), 32, UInt8.ofNat (48 + w.b.toNat), 32, UInt8.ofNat (48 + w.t.toNat), 10] ++ (r.flatMap fun w => lineW w ++ [10]) := by
      simp [lineW, jn, workB, itoa_dig a1 a2, itoa_dig b1 b2, itoa_dig c1 c2]
    rw [e] at h
    have hl := congrArg List.length h
    simp only [List.length_drop, List.length_append, List.length_cons, List.length_nil] at hl
    have d : s.drop (p + 11) = (r.flatMap fun w => lineW w ++ [10]) := by rw [← List.drop_drop, h]; rfl
    have v1 : at8 s (p + 5) = w.a := by rw [at8_drop h]; exact dig_val a1 a2
    have v2 : at8 s (p + 7) = w.b := by rw [at8_drop h]; exact dig_val b1 b2
    have v3 : at8 s (p + 9) = w.t := by rw [at8_drop h]; exact dig_val c1 c2
    rw [wkGo, if_pos (by omega), v1, v2, v3, wkGo_prt s r k (p + 11) _ (fun x hx => hW x (List.mem_cons_of_mem _ hx)) (by simp only [List.length_cons] at hk; omega) (by omega) d]
    simp
theorem rprsP_prt {side m : Int} {W : List Wk} (h : chk side m W = 0) : rprsP (prtP side m W) = some (side, m, W) := by
  obtain ⟨h1, h2, h3, h4⟩ := chk_ok h
  have hw : ∀ w ∈ W, (0 ≤ w.a ∧ w.a ≤ 9) ∧ (0 ≤ w.b ∧ w.b ≤ 9) ∧ 0 ≤ w.t ∧ w.t ≤ 9 := fun w hw => by
    obtain ⟨i, hi, rfl⟩ := List.getElem_of_mem hw
    have e : W.getD i noW = W[i] := by rw [List.getD, List.getElem?_eq_getElem hi]; rfl
    have ok := okW_spec (h4 i hi)
    rw [e] at ok
    omega
  have e : prtP side m W = [115, 104, 111, 112, 32, UInt8.ofNat (48 + side.toNat), 32, UInt8.ofNat (48 + m.toNat), 10] ++ (W.flatMap fun w => lineW w ++ [10]) := by
    simp [prtP, jn, shopB, itoa_dig (show (0 : Int) ≤ side by omega) (show side ≤ 9 by omega), itoa_dig (show (0 : Int) ≤ m by omega) (show m ≤ 9 by omega)]
  have hl := congrArg List.length e
  simp only [List.length_append, List.length_cons, List.length_nil] at hl
  have v1 : at8 (prtP side m W) 5 = side := by rw [e]; exact dig_val (by omega) (by omega)
  have v2 : at8 (prtP side m W) 7 = m := by rw [e]; exact dig_val (by omega) (by omega)
  have v3 : wkGo (prtP side m W) 17 9 [] = W := by
    have := wkGo_prt (prtP side m W) W 17 9 [] hw (by omega) (by omega) (by rw [e]; rfl)
    simpa using this
  unfold rprsP
  rw [if_neg (by omega), v1, v2, v3, if_pos ⟨h, rfl⟩]
theorem rprsP_some {s : List UInt8} {side m : Int} {W : List Wk} (h : rprsP s = some (side, m, W)) : chk side m W = 0 ∧ prtP side m W = s := by
  unfold rprsP at h
  split at h
  · cases h
  · split at h
    · rename_i hc
      simp only [Option.some.injEq, Prod.mk.injEq] at h
      obtain ⟨a, b, c⟩ := h
      rw [a, b, c] at hc
      exact hc
    · cases h
/-- plate reads what the specification reads -/
theorem prsP_rprsP (s : List UInt8) : prsP s = rprsP s := by
  cases h : prsP s with
  | some x =>
    obtain ⟨a, b, c⟩ := x
    obtain ⟨h1, rfl⟩ := prsP_some h
    rw [rprsP_prt h1]
  | none =>
    cases g : rprsP s with
    | none => rfl
    | some x =>
      obtain ⟨a, b, c⟩ := x
      obtain ⟨h1, rfl⟩ := rprsP_some g
      rw [prsP_prt h1] at h
      cases h
end Pl
