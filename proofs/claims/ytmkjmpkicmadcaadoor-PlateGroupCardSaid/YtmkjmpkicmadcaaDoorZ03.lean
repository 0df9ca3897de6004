/- What the claims of layer 2 share, part 3: several texts one behind the other. -/
import Derived.Lib.AtoiAll
import Derived.Lib.ItoaNum
import Derived.Lib.ItoaLen
import Derived.Lib.ItoaMem
import Derived.Lib.IndexMore
import Derived.Lib.Split
import Derived.Lib.FrozenHead2
import Derived.Lib.OthersKept
import Derived.Lib.AppendIntMem
import Derived.StillTail
import Derived.Deep.RegionHeld3
import Derived.Test.YtmkjmpkicmadcaaDoorZ02
set_option linter.unusedSimpArgs false
set_option linter.unusedVariables false
/- The mathematics of the texts of systems: what chain's Print writes, and what its Parse reads. -/
namespace Tx
open Go.Lib

def isDig (c : UInt8) : Prop := 48 ≤ c.toNat ∧ c.toNat ≤ 57

def dstep (acc : Nat) (c : UInt8) : Nat := acc * 10 + (c.toNat - 48)
def dval (acc : Nat) (l : List UInt8) : Nat := l.foldl dstep acc
theorem dval_nil (acc : Nat) : dval acc [] = acc := rfl
theorem dval_cons (acc : Nat) (c : UInt8) (r : List UInt8) : dval acc (c :: r) = dval (dstep acc c) r := by unfold dval; rw [List.foldl_cons]
theorem dval_snoc (l : List UInt8) (acc : Nat) (c : UInt8) : dval acc (l ++ [c]) = dstep (dval acc l) c := by
  unfold dval; rw [List.foldl_append, List.foldl_cons, List.foldl_nil]

theorem dval_le : ∀ (l : List UInt8) (acc : Nat), acc ≤ dval acc l
  | [], acc => by rw [dval_nil]; exact Nat.le_refl _
  | x :: xs, acc => by have := dval_le xs (dstep acc x); rw [dval_cons]; unfold dstep at this ⊢; omega

theorem dig_toNat {k : Nat} (h : k < 10) : (UInt8.ofNat (48 + k)).toNat = 48 + k := by
  rw [UInt8.toNat_ofNat']; omega

theorem decDigits_dig (u : Nat) : ∀ c ∈ decDigits u, isDig c := by
  induction u using Nat.strongRecOn with
  | _ u ih =>
    intro c hc
    rw [decDigits] at hc
    split at hc
    · rw [List.mem_singleton] at hc; subst hc; unfold isDig; rw [dig_toNat (by assumption)]; omega
    · rcases List.mem_append.1 hc with h | h
      · exact ih _ (by omega) c h
      · rw [List.mem_singleton] at h; subst h; unfold isDig; rw [dig_toNat (by omega)]; omega

theorem decDigits_val (u : Nat) : dval 0 (decDigits u) = u := by
  induction u using Nat.strongRecOn with
  | _ u ih =>
    rw [decDigits]
    split
    · rename_i h; rw [dval_cons, dval_nil, dstep, dig_toNat h]; omega
    · rw [dval_snoc, ih _ (by omega), dstep, dig_toNat (by omega)]; omega

theorem decDigits_len (u : Nat) : (decDigits u).length = nDigits u := by rw [decDigits_eq]; simp
theorem decDigits_ne (u : Nat) : decDigits u ≠ [] := by
  intro h; have := decDigits_len u; rw [h] at this; have := nDigits_pos u; simp at *; omega

theorem nDigits_le10 {u : Nat} (h : u < 10000000000) : nDigits u ≤ 10 := by
  rcases Nat.lt_or_ge 10 (nDigits u) with h1 | h1
  · exfalso
    have h2 : 10 ^ 10 ≤ u := by
      have key : ∀ k u, k + 1 ≤ nDigits u → 1 ≤ k → 10 ^ k ≤ u := by
        intro k
        induction k with
        | zero => intro u _ h; omega
        | succ k ih =>
          intro u h _
          by_cases hu : u < 10
          · rw [nDigits_small hu] at h; omega
          · rw [nDigits_big hu] at h
            cases k with
            | zero => simp; omega
            | succ k =>
              have := ih (u / 10) (by omega) (by omega)
              rw [Nat.pow_succ]; omega
      exact key 10 u (by omega) (by omega)
    simp at h2; omega
  · exact h1

theorem parse_val : ∀ (l : List UInt8) (acc : Nat), (∀ c ∈ l, isDig c) → dval acc l < 9223372036854775808 → parseUint10 acc l = .ok (dval acc l)
  | [], acc, _, _ => by rw [parseUint10, dval_nil]
  | c :: r, acc, hd, hv => by
    have hc := hd c List.mem_cons_self
    have hle := dval_le r (dstep acc c)
    have e : dstep acc c = acc * 10 + (c.toNat - 48) := by rw [dstep]
    rw [dval_cons] at hv ⊢
    unfold isDig at hc
    rw [parseUint10, if_pos hc, if_neg (by omega), if_neg (by omega), ← e]
    exact parse_val r _ (fun x hx => hd x (List.mem_cons_of_mem _ hx)) hv

theorem parseMag_dec {u : Nat} (h : u < 9223372036854775808) : parseMag (decDigits u) = .ok u := by
  unfold parseMag
  rw [if_neg (decDigits_ne u), parse_val _ _ (decDigits_dig u) (by rw [decDigits_val]; exact h), decDigits_val]

theorem atoi_itoa {n : Int} (h0 : -9223372036854775808 < n) (h1 : n < 9223372036854775808) : atoiAll (itoa n) = .ok n := by
  unfold itoa
  split
  · rename_i hn
    simp only [atoiAll]
    rw [if_pos (by decide), parseMag_dec (by omega)]
    simp only
    rw [if_neg (by simp), if_neg (by simp; omega), if_pos (by simp)]
    congr 1; omega
  · rename_i hn
    obtain ⟨c, r, e⟩ : ∃ c r, decDigits n.toNat = c :: r := by
      cases h : decDigits n.toNat with
      | nil => exact (decDigits_ne _ h).elim
      | cons c r => exact ⟨c, r, rfl⟩
    have hc : isDig c := decDigits_dig n.toNat c (by rw [e]; exact List.mem_cons_self)
    unfold isDig at hc
    rw [e]
    simp only [atoiAll]
    rw [if_neg (by omega), ← e, parseMag_dec (by omega)]
    simp only
    rw [if_neg (by omega), if_neg (by omega), if_neg (by omega)]
    congr 1; omega

theorem atoi_range {l : List UInt8} {n : Int} (h : atoiAll l = .ok n) : -9223372036854775808 ≤ n ∧ n ≤ 9223372036854775807 := by
  unfold atoiAll at h
  cases l with
  | nil => cases h
  | cons c r =>
    simp only at h
    split at h
    · cases h
    · cases h
    · split at h
      · cases h
      · split at h
        · cases h
        · rename_i u _ h1 h2
          simp only [NumEnd.ok.injEq] at h
          subst h
          by_cases hn : c.toNat = 45 <;> simp [hn] at h1 h2 ⊢ <;> omega

theorem itoa_no {c : UInt8} (h45 : c ≠ 45) (hd : ¬ isDig c) (n : Int) : c ∉ itoa n := by
  intro h
  unfold itoa at h
  split at h
  · rcases List.mem_cons.1 h with h | h
    · exact h45 h
    · exact hd (decDigits_dig _ _ h)
  · exact hd (decDigits_dig _ _ h)
theorem itoa_no10 (n : Int) : (10 : UInt8) ∉ itoa n := itoa_no (by decide) (by unfold isDig; decide) n
theorem itoa_no32 (n : Int) : (32 : UInt8) ∉ itoa n := itoa_no (by decide) (by unfold isDig; decide) n
theorem itoa_ne (n : Int) : itoa n ≠ [] := by
  unfold itoa
  split
  · exact fun h => by cases h
  · exact decDigits_ne _

/-- the first place of a byte -/
theorem index_at {c : UInt8} : ∀ (a b : List UInt8), c ∉ a → index (a ++ c :: b) [c] = a.length
  | [], b, _ => by simp [index, List.isPrefixOf]
  | x :: xs, b, h => by
    have hx : c ≠ x := fun e => h (by rw [e]; exact List.mem_cons_self)
    have i := index_at xs b (fun hm => h (List.mem_cons_of_mem _ hm))
    rw [List.cons_append, index, i]
    have : ((xs.length : Int) == -1) = false := by rw [beq_eq_false_iff_ne]; omega
    simp [List.isPrefixOf, hx, this]
theorem index_no {c : UInt8} : ∀ a : List UInt8, c ∉ a → index a [c] = -1
  | [], _ => by simp [index]
  | x :: xs, h => by
    have hx : c ≠ x := fun e => h (by rw [e]; exact List.mem_cons_self)
    have i := index_no xs (fun hm => h (List.mem_cons_of_mem _ hm))
    rw [index, i]
    simp [List.isPrefixOf, hx]
theorem byte_cases (c : UInt8) : ∀ s : List UInt8, c ∉ s ∨ ∃ a b, s = a ++ c :: b ∧ c ∉ a
  | [] => Or.inl (by simp)
  | x :: xs => by
    by_cases hx : c = x
    · exact Or.inr ⟨[], xs, by rw [hx]; rfl, by simp⟩
    · rcases byte_cases c xs with h | ⟨a, b, h, h2⟩
      · exact Or.inl (by simp [hx, h])
      · exact Or.inr ⟨x :: a, b, by rw [h]; rfl, by simp [hx, h2]⟩
theorem cut_no {c : UInt8} {a : List UInt8} (h : c ∉ a) : cut a [c] = (a, [], false) := by
  unfold cut; rw [index_no a h, if_neg (by omega)]
theorem cut_at {c : UInt8} {a : List UInt8} (b : List UInt8) (h : c ∉ a) : cut (a ++ c :: b) [c] = (a, b, true) := by
  unfold cut; rw [index_at a b h, if_pos (by omega)]
  simp
theorem splitK_no {c : UInt8} {a : List UInt8} (k : Nat) (h : c ∉ a) : splitK [c] 0 k a = [a] := by
  cases k with
  | zero => rfl
  | succ k => unfold splitK; rw [index_no a h]; rfl
theorem splitK_at {c : UInt8} {a : List UInt8} (k : Nat) (b : List UInt8) (h : c ∉ a) : splitK [c] 0 (k + 1) (a ++ c :: b) = a :: splitK [c] 0 k b := by
  have e : ((a.length : Int) == -1) = false := by rw [beq_eq_false_iff_ne]; omega
  show (if index (a ++ c :: b) [c] == -1 then [a ++ c :: b] else (a ++ c :: b).take ((index (a ++ c :: b) [c]).toNat + 0) :: splitK [c] 0 k ((a ++ c :: b).drop ((index (a ++ c :: b) [c]).toNat + [c].length))) = _
  rw [index_at a b h, e]
  simp

/-- pieces, with a byte between -/
def jn (c : UInt8) : List (List UInt8) → List UInt8
  | [] => []
  | [a] => a
  | a :: b :: r => a ++ c :: jn c (b :: r)
theorem splitK_ne (c : UInt8) (k : Nat) (s : List UInt8) : splitK [c] 0 k s ≠ [] := by
  cases k with
  | zero => exact fun h => by cases h
  | succ k =>
    unfold splitK
    split <;> exact fun h => by cases h
theorem jn_cons (c : UInt8) (a : List UInt8) {l : List (List UInt8)} (h : l ≠ []) : jn c (a :: l) = a ++ c :: jn c l := by
  cases l with
  | nil => exact (h rfl).elim
  | cons b r => rfl
theorem splitK_jn (c : UInt8) : ∀ (k : Nat) (s : List UInt8), jn c (splitK [c] 0 k s) = s
  | 0, s => rfl
  | k + 1, s => by
    rcases byte_cases c s with h | ⟨a, b, rfl, h⟩
    · rw [splitK_no _ h]; rfl
    · rw [splitK_at k b h, jn_cons _ _ (splitK_ne _ _ _), splitK_jn c k b]
theorem jn_splitK (c : UInt8) : ∀ (l : List (List UInt8)) (k : Nat), l ≠ [] → (∀ a ∈ l, c ∉ a) → l.length ≤ k + 1 → splitK [c] 0 k (jn c l) = l
  | [], _, h, _, _ => (h rfl).elim
  | [a], k, _, h, _ => splitK_no k (h a List.mem_cons_self)
  | a :: b :: r, k, _, h, hk => by
    obtain ⟨k, rfl⟩ : ∃ j, k = j + 1 := ⟨k - 1, by simp only [List.length_cons] at hk; omega⟩
    show splitK [c] 0 (k + 1) (a ++ c :: jn c (b :: r)) = _
    rw [splitK_at k _ (h a List.mem_cons_self), jn_splitK c (b :: r) k (by simp) (fun x hx => h x (List.mem_cons_of_mem _ hx)) (by simp only [List.length_cons] at hk ⊢; omega)]
theorem jn_len (c : UInt8) : ∀ l : List (List UInt8), l.length ≤ (jn c l).length + 1
  | [] => by simp
  | [a] => by simp [jn]
  | a :: b :: r => by
    have := jn_len c (b :: r)
    simp only [jn, List.length_cons, List.length_append] at this ⊢
    omega
theorem jn_no (c d : UInt8) (hcd : d ≠ c) : ∀ l : List (List UInt8), (∀ a ∈ l, d ∉ a) → d ∉ jn c l
  | [], _ => by simp [jn]
  | [a], h => h a List.mem_cons_self
  | a :: b :: r, h => by
    have i := jn_no c d hcd (b :: r) (fun x hx => h x (List.mem_cons_of_mem _ hx))
    have h0 := h a List.mem_cons_self
    simp only [jn, List.mem_append, List.mem_cons, not_or]
    exact ⟨h0, hcd, i⟩

/-- the numbers of words that are written as Itoa writes them -/
def nums : List (List UInt8) → Option (List Int)
  | [] => some []
  | w :: r => match atoiAll w with
    | .ok n => if itoa n = w then (nums r).map (n :: ·) else none
    | _ => none
theorem nums_some : ∀ {ws : List (List UInt8)} {ns : List Int}, nums ws = some ns → ws = ns.map itoa ∧ ∀ n ∈ ns, -9223372036854775808 ≤ n ∧ n ≤ 9223372036854775807
  | [], ns, h => by simp only [nums, Option.some.injEq] at h; subst h; simp
  | w :: r, ns, h => by
    simp only [nums] at h
    split at h
    · rename_i n hn
      split at h
      · rename_i hw
        cases hr : nums r with
        | none => rw [hr] at h; cases h
        | some q =>
          rw [hr] at h
          simp only [Option.map_some, Option.some.injEq] at h
          subst h
          obtain ⟨i, j⟩ := nums_some hr
          exact ⟨by rw [List.map_cons, hw, ← i], fun x hx => by
            rcases List.mem_cons.1 hx with rfl | hx
            · exact atoi_range hn
            · exact j x hx⟩
      · cases h
    · cases h
theorem nums_map : ∀ (ns : List Int), (∀ n ∈ ns, -9223372036854775808 < n ∧ n < 9223372036854775808) → nums (ns.map itoa) = some ns
  | [], _ => rfl
  | n :: r, h => by
    have hn := h n List.mem_cons_self
    rw [List.map_cons, nums, atoi_itoa hn.1 hn.2]
    simp only [if_pos]
    rw [nums_map r (fun x hx => h x (List.mem_cons_of_mem _ hx))]
    rfl

/-- readLine -/
def rl (line word : List UInt8) (count : Nat) : Option (List Int) :=
  if (splitN line [32] (count + 2)).length = count + 1 ∧ (splitN line [32] (count + 2)).head? = some word then nums (splitN line [32] (count + 2)).tail else none
theorem rl_some {line word : List UInt8} {count : Nat} {ns : List Int} (h : rl line word count = some ns) : ns.length = count ∧ line = jn 32 (word :: ns.map itoa) ∧ ∀ n ∈ ns, -9223372036854775808 ≤ n ∧ n ≤ 9223372036854775807 := by
  unfold rl at h
  split at h
  · rename_i hc
    obtain ⟨h1, h2⟩ := hc
    have hj : jn 32 (splitN line [32] (count + 2)) = line := splitK_jn _ _ _
    cases hs : splitN line [32] (count + 2) with
    | nil => rw [hs] at h2; cases h2
    | cons a r =>
      rw [hs] at h h1 h2 hj
      simp only [List.head?_cons, Option.some.injEq] at h2
      subst h2
      obtain ⟨i, j⟩ := nums_some (ws := r) h
      refine ⟨?_, ?_, j⟩
      · have := congrArg List.length i
        simp only [List.length_map, List.length_cons] at this h1
        omega
      · rw [← i]; exact hj.symm
  · cases h
theorem rl_jn {word : List UInt8} (hw : (32 : UInt8) ∉ word) (ns : List Int) (h : ∀ n ∈ ns, -9223372036854775808 < n ∧ n < 9223372036854775808) : rl (jn 32 (word :: ns.map itoa)) word ns.length = some ns := by
  have hs : splitN (jn 32 (word :: ns.map itoa)) [32] (ns.length + 2) = word :: ns.map itoa := by
    unfold splitN
    refine jn_splitK 32 _ _ (by simp) (fun a ha => ?_) ?_
    · rcases List.mem_cons.1 ha with rfl | ha
      · exact hw
      · obtain ⟨n, _, rfl⟩ := List.mem_map.1 ha
        exact itoa_no32 n
    · have := jn_len 32 (word :: ns.map itoa)
      simp only [List.length_cons, List.length_map] at this ⊢
      omega
  unfold rl
  rw [hs, if_pos (by simp)]
  exact nums_map ns h

def nodesB : List UInt8 := [110, 111, 100, 101, 115]
def linkB : List UInt8 := [108, 105, 110, 107]
def line1 (l : Ch.Lk) : List UInt8 := jn 32 (linkB :: [l.f, l.t, l.m].map itoa)
/-- the text of a system -/
def prt (n : Int) (L : List Ch.Lk) : List UInt8 := jn 32 (nodesB :: [n].map itoa) ++ 10 :: L.flatMap fun l => line1 l ++ [10]
/-- read's loop -/
def rdGo : Nat → List UInt8 → List Ch.Lk → Option (List Ch.Lk)
  | 0, _, _ => none
  | k + 1, rest, acc =>
    if rest = [] then some acc
    else match rl (cut rest [10]).1 linkB 3 with
      | some [f, t, m] => if (cut rest [10]).2.2 = true ∧ acc.length ≠ 300 then rdGo k (cut rest [10]).2.1 (acc ++ [⟨f, t, m⟩]) else none
      | _ => none
def rdT (s : List UInt8) : Option (Int × List Ch.Lk) :=
  match rl (cut s [10]).1 nodesB 1 with
  | some [n] => if (cut s [10]).2.2 = true then (rdGo ((cut s [10]).2.1.length + 1) (cut s [10]).2.1 []).map fun L => (n, L) else none
  | _ => none

theorem line_no10 (w : List UInt8) (h : (10 : UInt8) ∉ w) (ns : List Int) : (10 : UInt8) ∉ jn 32 (w :: ns.map itoa) := by
  refine jn_no 32 10 (by decide) _ (fun a ha => ?_)
  rcases List.mem_cons.1 ha with rfl | ha
  · exact h
  · obtain ⟨n, _, rfl⟩ := List.mem_map.1 ha
    exact itoa_no10 n
theorem line1_no10 (l : Ch.Lk) : (10 : UInt8) ∉ line1 l := line_no10 linkB (by decide) _
def R64 (n : Int) : Prop := -9223372036854775808 < n ∧ n < 9223372036854775808
theorem rl_line1 (l : Ch.Lk) (h : R64 l.f ∧ R64 l.t ∧ R64 l.m) : rl (line1 l) linkB 3 = some [l.f, l.t, l.m] :=
  rl_jn (word := linkB) (by decide) [l.f, l.t, l.m] (fun n hn => by
    simp only [List.mem_cons, List.not_mem_nil, or_false] at hn
    rcases hn with rfl | rfl | rfl
    · exact h.1
    · exact h.2.1
    · exact h.2.2)

theorem rdGo_prt : ∀ (L : List Ch.Lk) (k : Nat) (acc : List Ch.Lk), (∀ l ∈ L, R64 l.f ∧ R64 l.t ∧ R64 l.m) → acc.length + L.length ≤ 300 → (L.flatMap fun l => line1 l ++ [10]).length < k → rdGo k (L.flatMap fun l => line1 l ++ [10]) acc = some (acc ++ L)
  | [], k, acc, _, _, hk => by
    obtain ⟨k, rfl⟩ : ∃ j, k = j + 1 := ⟨k - 1, by omega⟩
    simp [rdGo]
  | l :: r, k, acc, h, hl, hk => by
    obtain ⟨k, rfl⟩ : ∃ j, k = j + 1 := ⟨k - 1, by omega⟩
    have e : ((l :: r).flatMap fun l => line1 l ++ [10]) = line1 l ++ 10 :: (r.flatMap fun l => line1 l ++ [10]) := by simp
    rw [e] at hk ⊢
    have hc := cut_at (c := 10) (a := line1 l) (r.flatMap fun l => line1 l ++ [10]) (line1_no10 l)
    unfold rdGo
    rw [if_neg (by simp), hc]
    simp only [List.length_cons, List.length_append] at hl hk
    simp only [rl_line1 l (h l List.mem_cons_self)]
    rw [if_pos ⟨trivial, by omega⟩, rdGo_prt r k _ (fun x hx => h x (List.mem_cons_of_mem _ hx)) (by simp; omega) (by omega)]
    simp
theorem rdGo_some : ∀ (k : Nat) (rest : List UInt8) (acc L : List Ch.Lk), rdGo k rest acc = some L → acc.length ≤ 300 → ∃ M, L = acc ++ M ∧ rest = (M.flatMap fun l => line1 l ++ [10]) ∧ L.length ≤ 300
  | 0, _, _, _, h, _ => by cases h
  | k + 1, rest, acc, L, h, ha => by
    unfold rdGo at h
    split at h
    · rename_i he
      simp only [Option.some.injEq] at h
      subst h
      exact ⟨[], by simp, by rw [he]; rfl, ha⟩
    · split at h
      · rename_i f t m hr
        split at h
        · rename_i hc
          rcases byte_cases 10 rest with h0 | ⟨a, b, rfl, h0⟩
          · rw [cut_no h0] at hc
            exact absurd hc.1 (by simp)
          · rw [cut_at b h0] at hr h
            obtain ⟨M, h1, h2, h3⟩ := rdGo_some k b _ L h (by have := hc.2; simp; omega)
            obtain ⟨_, h4, _⟩ := rl_some hr
            refine ⟨⟨f, t, m⟩ :: M, by rw [h1]; simp, ?_, h3⟩
            simp only at h4 h2
            rw [h2, h4]
            simp [line1]
        · cases h
      · cases h
/-- what is written is read again -/
theorem rd_prt (n : Int) (L : List Ch.Lk) (hn : R64 n) (h : ∀ l ∈ L, R64 l.f ∧ R64 l.t ∧ R64 l.m) (hl : L.length ≤ 300) : rdT (prt n L) = some (n, L) := by
  have hc := cut_at (c := 10) (a := jn 32 (nodesB :: [n].map itoa)) (L.flatMap fun l => line1 l ++ [10]) (line_no10 nodesB (by decide) [n])
  have hr : rl (jn 32 (nodesB :: [n].map itoa)) nodesB 1 = some [n] := rl_jn (word := nodesB) (by decide) [n] (fun x hx => by
    simp only [List.mem_cons, List.not_mem_nil, or_false] at hx
    subst hx
    exact hn)
  unfold rdT prt
  rw [hc]
  simp only [hr]
  rw [if_pos trivial, rdGo_prt L _ [] h (by simpa using hl) (Nat.lt_succ_self _)]
  simp
/-- what is read was written -/
theorem prt_rd {s : List UInt8} {n : Int} {L : List Ch.Lk} (h : rdT s = some (n, L)) : prt n L = s ∧ L.length ≤ 300 := by
  unfold rdT at h
  split at h
  · rename_i x hr
    split at h
    · rename_i hc
      rcases byte_cases 10 s with h0 | ⟨a, b, rfl, h0⟩
      · rw [cut_no h0] at hc
        cases hc
      · rw [cut_at b h0] at hr h
        cases hg : rdGo (b.length + 1) b [] with
        | none => simp only at h; rw [hg] at h; cases h
        | some M =>
          simp only at h
          rw [hg] at h
          simp only [Option.map_some, Option.some.injEq, Prod.mk.injEq] at h
          obtain ⟨rfl, rfl⟩ := h
          obtain ⟨Q, h1, h2, h3⟩ := rdGo_some _ b [] _ hg (by simp)
          simp only [List.nil_append] at h1
          subst h1
          obtain ⟨_, h4, _⟩ := rl_some hr
          refine ⟨?_, h3⟩
          unfold prt
          rw [← h2]
          simp only at h4
          rw [h4]
    · cases h
  · cases h
end Tx

/- A strings.Builder that a call has made: what its methods leave, and what stands beside it. -/
namespace Go.Proofs.YtmkjmpkicmadcaaDoor
open Go.RowKit

theorem bdAt_below {T e : TypeId} {B b : Nat} {p : Value} {bs : List Value} {W W' : World} (h : Lib.BuilderAtF T e B b p bs W) (hb : Below W.heap.size W W') : Lib.BuilderAtF T e B b p bs W' := by
  obtain ⟨hB, v, hbk, ⟨h1, h2⟩, hne⟩ := h
  refine ⟨hB, v, (hb.block b (Array.getElem?_eq_some_iff.1 hbk).1).trans hbk, ⟨h1, ?_⟩, hne⟩
  rcases h2 with h2 | ⟨g, cap, cur, fz, hv, hBg, hg, r⟩
  · exact .inl h2
  · exact .inr ⟨g, cap, cur, fz, hv, hBg, (hb.block g (Array.getElem?_eq_some_iff.1 hg).1).trans hg, r⟩
/-- a builder in block b that holds these bytes; what lies below B is not its own -/
def Bd (B b : Nat) (l : List UInt8) (W : World) : Prop := Lib.IsBuilderF 108 5 B b (Lib.byteCells l) W ∧ B ≤ W.heap.size
theorem Bd.below {B b : Nat} {l : List UInt8} {W W' : World} (h : Bd B b l W) (hb : Below W.heap.size W W') : Bd B b l W' := ⟨h.1.elim (fun x => .inl (bdAt_below x hb)) (fun x => .inr (bdAt_below x hb)), Nat.le_trans h.2 hb.size⟩
/-- what stands beside a builder -/
def Kp (b : Nat) (W W' : World) : Prop := Lib.OthersKept 5 (some b) W W'
theorem Kp.of {b : Nat} {W W' : World} (hb : Below W.heap.size W W') : Kp b W W' := fun k _ h _ _ => (hb.block k (Array.getElem?_eq_some_iff.1 h).1).trans h
theorem Kp.trans {b : Nat} {W X Y : World} (h : Kp b W X) (k : Kp b X Y) : Kp b W Y := Lib.OthersKept.trans h k
/-- a row of integers -/
def RowAt (W : World) (g : Nat) (ns : List Int) : Prop := W.heap[g]? = some (.cells (ns.map (Value.int .i64)).toArray 3)
theorem RowAt.kept {W W' : World} {g b : Nat} {ns : List Int} (h : RowAt W g ns) (k : Kp b W W') (hg : g ≠ b) : RowAt W' g ns := k g _ h (fun e => hg (Option.some.inj e)) (fun c fz e => by cases e)
theorem RowAt.lt {W : World} {g : Nat} {ns : List Int} (h : RowAt W g ns) : g < W.heap.size := (Array.getElem?_eq_some_iff.1 h).1
theorem RowAt.cell {W : World} {g : Nat} {ns : List Int} (h : RowAt W g ns) {k : Nat} (hk : k < ns.length) : W.cell? ⟨g, k, none⟩ = some (.int .i64 (ns.getD k 0)) := by
  have h' : W.heap[g]? = some (.cells (ns.map (Value.int .i64)).toArray 3) := h
  simp [World.cell?, h', hk]
theorem row_new (W : World) (ns : List Int) : RowAt (W.alloc (Obj.cells (ns.map (Value.int .i64)).toArray 3)) W.heap.size ns := by
  show (W.heap.push (Obj.cells (ns.map (Value.int .i64)).toArray 3))[W.heap.size]? = some _
  exact Array.getElem?_push_size

theorem bd_new (W : World) : Bd W.heap.size W.heap.size [] (W.alloc (.cells #[.pointer none, .slice none 0 0] 108)) :=
  ⟨Lib.IsBuilderF.of (Lib.fresh_isBuilder 108 5 W), by simp⟩

theorem infoByte : (Tryd.prog.info? 5).map (fun i => (i.zero, i.size, i.bytes)) = some (some (.int .u8 0), 1, 1) := by kernel_rfl
theorem sizeBuilder : (Tryd.prog.info? 108).map (fun j => j.size) = some 2 := by kernel_rfl

/-- a builder whose address is its own -/
def Used (B b : Nat) (l : List UInt8) (W : World) : Prop := Lib.BuilderAtF 108 5 B b (.pointer (some ⟨b, 0, none⟩)) (Lib.byteCells l) W

set_option maxHeartbeats 1000000 in
set_option maxRecDepth 100000 in
theorem copyCheck_used (b : Nat) (w : World) (h0 : w.cell? ⟨b, 0, none⟩ = some (.pointer (some ⟨b, 0, none⟩))) :
    Calls Tryd.prog 86 #[.pointer (some ⟨b, 0, none⟩)] w fun e w' => e = .returned (.tuple #[]) ∧ w' = w := by
  obtain ⟨j, hj, _⟩ := Option.map_eq_some_iff.1 sizeBuilder
  go_enter Tryd.func86, Tryd.ntmps86
  go_wp2
  rw [Lib.run_neq_ptr_same w _ Tryd.underlying105 hj]
  go_wp2
  refine bodyPost_end (v := .tuple #[]) (by simp [results, Tryd.results86, go_sem]) rfl ?_
  exact ⟨rfl, rfl⟩

set_option maxHeartbeats 1000000 in
set_option maxRecDepth 100000 in
theorem copyCheck_fresh (b : Nat) (w : World) (h0 : w.cell? ⟨b, 0, none⟩ = some (.pointer none)) (hsh : w.shape? b = some (108, 2)) (hfz : w.frozen? ⟨b, 0, none⟩ = false) :
    Calls Tryd.prog 86 #[.pointer (some ⟨b, 0, none⟩)] w fun e w' => e = .returned (.tuple #[]) ∧ w' = w.setCell ⟨b, 0, none⟩ (.pointer (some ⟨b, 0, none⟩)) := by
  obtain ⟨j, hj, hjs⟩ := Option.map_eq_some_iff.1 sizeBuilder
  go_enter Tryd.func86, Tryd.ntmps86
  go_wp2
  rw [Lib.run_to_unsafe w ⟨b, 0, none⟩ Tryd.underlying105 Tryd.underlying140 hj (by rw [hjs]; decide) hsh (Nat.zero_lt_succ 1)]
  simp only [Result.andThen]
  rw [Oper.upon_value]
  go_wp2
  rw [run_callFunc_extern Tryd.func88 (by kernel_rfl) (by kernel_rfl) (by kernel_rfl) (e := Extern.AbiNoEscape.same) (by kernel_rfl), Lib.run_noEscape]
  simp only [Result.andThen]
  rw [Oper.upon_value]
  go_wp2
  rw [Lib.run_from_unsafe w ⟨b, 0, none⟩ Tryd.underlying140 Tryd.underlying105 hj hsh (by kernel_rfl)]
  simp only [Result.andThen]
  rw [Oper.upon_value]
  go_wp2
  refine bodyPost_end (v := .tuple #[]) (by simp [results, Tryd.results86, go_sem]) rfl ?_
  exact ⟨rfl, rfl⟩

theorem copyCheck_any (B b : Nat) (l : List UInt8) (w : World) (h : Bd B b l w) :
    Calls Tryd.prog 86 #[.pointer (some ⟨b, 0, none⟩)] w fun e w' => e = .returned (.tuple #[]) ∧ Used B b l w' ∧ Below B w w' ∧ Kp b w w' := by
  rcases h.1 with h | h
  · refine (copyCheck_fresh b w h.cell0 h.shape h.frozen0).mono ?_
    rintro e w' ⟨rfl, rfl⟩
    exact ⟨rfl, h.used _, (Below.refl B w).setCell (p := ⟨b, 0, none⟩) h.1 _, (Lib.OthersKept.refl _ _ w).setCell ⟨b, 0, none⟩ rfl _⟩
  · refine (copyCheck_used b w h.cell0).mono ?_
    rintro e w' ⟨rfl, rfl⟩
    exact ⟨rfl, h, Below.refl B _, Lib.OthersKept.refl _ _ _⟩

/-- a builder, opened: its row, its cells -/
theorem Used.parts {B b : Nat} {l : List UInt8} {W : World} (h : Used B b l W) : ∃ v, B ≤ b ∧ b < W.heap.size ∧ W.heap[b]? = some (.cells #[.pointer (some ⟨b, 0, none⟩), v] 108) ∧ W.ownsRowF B 5 1 v l.length (Lib.byteCells l) ∧ v.ownBlock ≠ some b := by
  have hlt := h.lt
  obtain ⟨hB, v, hb, ho, hn⟩ := h
  rw [Lib.byteCells_length] at ho
  exact ⟨v, hB, hlt, hb, ho, hn⟩

set_option maxHeartbeats 2000000 in
set_option maxRecDepth 100000 in
theorem writeByte_any (B b : Nat) (l : List UInt8) (c : UInt8) (z : Int) (hz : Hid (z = (c.toNat : Int))) (w : World) (h : Hid (Bd B b l w)) (hl : Hid (l.length ≤ 1000000000)) :
    Calls Tryd.prog 80 #[.pointer (some ⟨b, 0, none⟩), .int .u8 z] w fun e w' => e = .returned .nilIface ∧ Hid (Bd B b (l ++ [c]) w') ∧ Below B w w' ∧ Hid (Kp b w w') := by
  obtain ⟨i0, hi, hz0, hz1, hz2⟩ := info_parts infoByte
  have hBw := h.out.2
  have he : Lib.byteCells (l ++ [c]) = Lib.byteCells l ++ [.int .u8 z] := by rw [Lib.byteCells_append, hz.out]; rfl
  have hlb := Lib.byteCells_length l
  have hl' := hl.out
  go_enter Tryd.func80, Tryd.ntmps80
  go_wp2_with fail
  refine (copyCheck_any B b l _ h.out).mono ?_
  rintro e w1 ⟨rfl, h1, hb1, hk1⟩
  obtain ⟨v, hB, hlt, hbk, hown, hne⟩ := h1.parts
  have c1 : w1.cell? ⟨b, 1, none⟩ = some v := by rw [Lib.cell_of_heap hbk]; rfl
  have hs1 := hb1.size
  clear h1
  go_wp2_with (at_builtin; refine wpList_append_ownF _ rfl _ _ 106 rfl B 5 i0 (.int .u8 0) 1 1 Tryd.underlying106 hi hz0 hz1 hz2 rfl (by decide) _ _ _ rfl (hown.alloc _) ⟨w1.heap.size, 0, none⟩ 1 1 [.int .u8 z] rfl rfl ?c1 ?c2 ?c3 ?c4 ?c5 ?_)
  case c1 =>
    intro j u hj
    match j, hj with
    | 0, hj => simp at hj; subst hj; simp [Addr.add]
  case c2 => intro u hu; simp at hu; subst hu; rfl
  case c3 => unfold maxLen; omega
  case c4 => omega
  case c5 => simp; omega
  intro v' w2 hown' hgrow _
  have hb2 : w2.heap[b]? = some (.cells #[.pointer (some ⟨b, 0, none⟩), v] 108) := by
    rw [hgrow.block b (by simp; omega) (fun e => hne e.symm), Lib.alloc_old w1 _ b hlt]
    exact hbk
  have d1 : w2.cell? ⟨b, 1, none⟩ = some v := by rw [Lib.cell_of_heap hb2]; rfl
  have f1 : w2.frozen? ⟨b, 1, none⟩ = false := Lib.frozen_of_heap hb2 1
  obtain ⟨g, cap, rfl⟩ : ∃ g cap, v' = .slice (some ⟨g, 0, none⟩) (l.length + 1) cap := by
    rcases hown'.2 with ⟨_, h0⟩ | ⟨g, cap, cur, fz, hv, _⟩
    · omega
    · exact ⟨g, cap, hv⟩
  go_wp2
  go_ret
  have hb3 : Below B w (w2.setCell ⟨b, 1, none⟩ (.slice (some ⟨g, 0, none⟩) (l.length + 1) cap)) :=
    ((hb1.alloc (by omega) _).grown hgrow (by simp; omega) (fun k hk => (hown.lt k hk).1)).setCell (p := ⟨b, 1, none⟩) hB _
  refine ⟨rfl, Lib.hid ⟨Or.inr ?_, Nat.le_trans hBw hb3.size⟩, hb3, Lib.hid (((hk1.alloc _).grown hgrow (Lib.ownsRowF_kind (hown.alloc _))).setCell ⟨b, 1, none⟩ rfl _)⟩
  rw [he]
  exact Lib.BuilderAtF.put (T := 108) (e := 5) hB hb2 (bs' := Lib.byteCells l ++ [.int .u8 z]) (by rw [List.length_append, Lib.byteCells_length]; exact hown') (by decide)

set_option maxHeartbeats 2000000 in
set_option maxRecDepth 100000 in
theorem writeString_any (B b : Nat) (l : List UInt8) (s : ByteArray) (w : World) (h : Hid (Bd B b l w)) (hl : Hid (l.length ≤ 1000000000 ∧ s.size ≤ 1000000000)) :
    Calls Tryd.prog 79 #[.pointer (some ⟨b, 0, none⟩), .string s] w fun e w' => e = .returned (.tuple #[.int .i64 s.size, .nilIface]) ∧ Hid (Bd B b (l ++ s.data.toList) w') ∧ Below B w w' ∧ Hid (Kp b w w') := by
  obtain ⟨i0, hi, hz0, hz1, hz2⟩ := info_parts infoByte
  have hBw := h.out.2
  have he : Lib.byteCells (l ++ s.data.toList) = Lib.byteCells l ++ Lib.strCells s := by rw [Lib.byteCells_append, ← Lib.strCells_eq]
  have hlb := Lib.byteCells_length l
  have hl' := hl.out
  go_enter Tryd.func79, Tryd.ntmps79
  go_wp2_with fail
  refine (copyCheck_any B b l _ h.out).mono ?_
  rintro e w1 ⟨rfl, h1, hb1, hk1⟩
  obtain ⟨v, hB, hlt, hbk, hown, hne⟩ := h1.parts
  have c1 : w1.cell? ⟨b, 1, none⟩ = some v := by rw [Lib.cell_of_heap hbk]; rfl
  have hs1 := hb1.size
  clear h1
  go_wp2_with (at_builtin; refine Lib.wpList_append_own_stringF _ rfl _ _ 106 9 rfl B 5 i0 Tryd.underlying106 Tryd.underlying9 hi hz0 hz1 hz2 _ _ _ rfl hown s rfl ?c3 ?c4 ?c5 ?_)
  case c3 => unfold maxLen; omega
  case c4 => omega
  case c5 => omega
  intro v' w2 hown' hgrow _
  have hb2 : w2.heap[b]? = some (.cells #[.pointer (some ⟨b, 0, none⟩), v] 108) := by
    rw [hgrow.block b hlt (fun e => hne e.symm)]
    exact hbk
  have d1 : w2.cell? ⟨b, 1, none⟩ = some v := by rw [Lib.cell_of_heap hb2]; rfl
  have f1 : w2.frozen? ⟨b, 1, none⟩ = false := Lib.frozen_of_heap hb2 1
  obtain ⟨ao, n', cap, rfl⟩ : ∃ ao n' cap, v' = .slice ao n' cap := by
    rcases hown'.2 with ⟨hv, _⟩ | ⟨g, cap, cur, fz, hv, _⟩
    · exact ⟨_, _, _, hv⟩
    · exact ⟨_, _, _, hv⟩
  go_wp2
  go_ret2
  have hb3 : Below B w (w2.setCell ⟨b, 1, none⟩ (.slice ao n' cap)) := (hb1.grown hgrow (by omega) (fun k hk => (hown.lt k hk).1)).setCell (p := ⟨b, 1, none⟩) hB _
  refine ⟨rfl, Lib.hid ⟨Or.inr ?_, Nat.le_trans hBw hb3.size⟩, hb3, Lib.hid ((hk1.grown hgrow (Lib.ownsRowF_kind hown)).setCell ⟨b, 1, none⟩ rfl _)⟩
  rw [he]
  exact Lib.BuilderAtF.put (T := 108) (e := 5) hB hb2 (bs' := Lib.byteCells l ++ Lib.strCells s) (by rw [List.length_append, Lib.byteCells_length, Lib.strCells_length]; exact hown') (by decide)

theorem builderString_any (B b : Nat) (l : List UInt8) (w : World) (h : Hid (Bd B b l w)) :
    Calls Tryd.prog 64 #[.pointer (some ⟨b, 0, none⟩)] w fun e w' => e = .returned (.string ⟨l.toArray⟩) ∧ Below B w w' := by
  refine (Tryd.Builder_String_any_k B b l w h.out.1 h.out.2).mono ?_
  rintro e w' ⟨rfl, _, h2, _⟩
  exact ⟨rfl, h2⟩

/-- the table that Itoa reads, whatever is done from block B on -/
abbrev Tab (B : Nat) (w : World) : Prop := Lib.TabBelow Tryd.prog B w "internal/strconv.uint64pow10" .u64 Lib.pow10Tab
theorem below_grow (w : World) (k : Nat) (os : Array Obj) : Below w.heap.size w (Sort.grow (w.drewN k) os) :=
  ⟨rfl, rfl, rfl, by simp [Sort.grow, World.drewN], fun k hk => by simp [Sort.grow, World.drewN, Array.getElem?_append, hk]⟩
theorem itoa_any (n : Int) (h : -9223372036854775808 ≤ n ∧ n ≤ 9223372036854775807) (w : World) (B : Nat) (hT : Hid (Tab B w)) :
    Calls Tryd.prog 81 #[.int .i64 n] w fun e w' => e = .returned (.string ⟨(Lib.itoa n).toArray⟩) ∧ Below w.heap.size w w' :=
  (Tryd.strconv_Itoa n h.1 h.2 w hT.out.here).mono fun _ _ ⟨he, k, os, hw⟩ => ⟨he, by rw [hw]; exact below_grow w k os⟩
theorem tab_on {B : Nat} {w w1 : World} (h : Hid (Tab B w)) (hb : Below B w w1) : Hid (Tab B w1) := Lib.hid (h.out.on hb)
theorem Tab.mono {B C : Nat} {w : World} (h : Tab B w) (hc : B ≤ C) : Tab C w := fun w' hb => h w' (hb.mono hc)
end Go.Proofs.YtmkjmpkicmadcaaDoor

/- Plain: what a line of numbers is. -/
namespace Tx
/-- numbers, a blank ahead of each -/
def sp (ns : List Int) : List UInt8 := ns.flatMap fun n => 32 :: Go.Lib.itoa n
theorem jn_sp : ∀ (w : List UInt8) (ns : List Int), jn 32 (w :: ns.map Go.Lib.itoa) = w ++ sp ns
  | w, [] => by simp [jn, sp]
  | w, n :: r => by
    have := jn_sp (Go.Lib.itoa n) r
    rw [List.map_cons]
    show w ++ 32 :: jn 32 (Go.Lib.itoa n :: r.map Go.Lib.itoa) = _
    rw [this]
    simp [sp]
theorem sp_take {ns : List Int} {k : Nat} (h : k < ns.length) : sp (ns.take (k + 1)) = sp (ns.take k) ++ (32 :: Go.Lib.itoa (ns.getD k 0)) := by
  unfold sp
  rw [List.take_succ_eq_append_getElem h, List.flatMap_append]
  simp [h]
theorem sp_len : ∀ (ns : List Int), (∀ n ∈ ns, -9223372036854775808 ≤ n ∧ n ≤ 9223372036854775807) → (sp ns).length ≤ 22 * ns.length
  | [], _ => by simp [sp]
  | n :: r, h => by
    have i := sp_len r (fun x hx => h x (List.mem_cons_of_mem _ hx))
    have hn := h n List.mem_cons_self
    have := Go.Lib.itoa_length_le n hn.1 hn.2
    simp only [sp, List.flatMap_cons, List.length_append, List.length_cons] at i ⊢
    omega
end Tx

/- chain.printLine: a word and numbers, written into a builder. -/
namespace Go.Proofs.YtmkjmpkicmadcaaDoor
open Go.RowKit

/-- what stands while a line is written -/
structure PLs (B b g : Nat) (ns : List Int) (l : List UInt8) (w W : World) : Prop where
  d : Bd B b l W
  r : RowAt W g ns
  b : Below B w W
theorem PLs.below {B b g : Nat} {ns : List Int} {l : List UInt8} {w W W' : World} (h : PLs B b g ns l w W) (hb : Below W.heap.size W W') : PLs B b g ns l w W' := ⟨h.d.below hb, h.r.kept (Kp.of (b := g + 1) hb) (by omega), h.b.trans (hb.mono h.d.2)⟩

set_option maxRecDepth 100000 in
set_option maxHeartbeats 2000000 in
theorem pLine_any (B b g cap m : Nat) (ns : List Int) (l : List UInt8) (wd : ByteArray) (hm : Hid (ns.length = m)) (hn : Hid (∀ n ∈ ns, -9223372036854775808 ≤ n ∧ n ≤ 9223372036854775807)) (hg : Hid (g ≠ b))
    (hl : Hid (l.length ≤ 100000000 ∧ wd.size ≤ 1000 ∧ m ≤ 1000)) (hm2 : m ≤ 1000) (w : World) (hT : Hid (Tab B w)) (hP : Hid (PLs B b g ns l w w)) :
    Calls Tryd.prog 63 #[.pointer (some ⟨b, 0, none⟩), .string wd, .slice (some ⟨g, 0, none⟩) m cap] w fun e w' => e = .returned (.tuple #[]) ∧ Hid (PLs B b g ns (l ++ (wd.data.toList ++ Tx.sp ns) ++ [10]) w w') := by
  have hwd : wd.data.toList.length = wd.size := by simp
  replace hwd := Lib.hid hwd
  go_enter Tryd.func63, Tryd.ntmps63
  go_wp2_with fail
  refine (writeString_any B b l wd w (Lib.hid hP.out.d) (Lib.hid (by have := hl.out; omega))).mono ?_
  rintro e w1 ⟨rfl, h1, b1, k1⟩
  have hP1 : Hid (PLs B b g ns (l ++ wd.data.toList) w w1) := Lib.hid ⟨h1.out, hP.out.r.kept k1.out hg.out, b1⟩
  clear h1 b1 k1
  go_wp2
  go_loopw [13] (fun i wr => ∃ k : Nat, k ≤ m ∧ i = .int .i64 k ∧ Hid (PLs B b g ns (l ++ (wd.data.toList ++ Tx.sp (ns.take k))) w wr)) (fun i _ => m - (RowKit.intOf i).toNat)
  case atStart => exact ⟨0, Nat.zero_le _, rfl, Lib.hid (by simpa [Tx.sp] using hP1.out)⟩
  case round =>
    obtain ⟨k, hk, rfl, hr⟩ := hrel
    by_cases hlt : k < m
    · have hlt2 : k < ns.length := by have := hm.out; omega
      have hi5 : (k : Int) < (m : Int) := by omega
      have hc := hr.out.r.cell hlt2
      have hx := hn.out (ns.getD k 0) (by rw [List.getD, List.getElem?_eq_getElem hlt2]; exact List.getElem_mem hlt2)
      have hst := Lib.hid (Tx.sp_take hlt2)
      have hsl := Tx.sp_len (ns.take k) (fun x hx => hn.out x (List.mem_of_mem_take hx))
      have hll : Hid ((l ++ (wd.data.toList ++ Tx.sp (ns.take k))).length ≤ 200000000) := Lib.hid (by
        have h1 := hl.out
        have h2 := hwd.out
        simp only [List.length_append, List.length_take] at hsl ⊢
        omega)
      obtain ⟨z, hz⟩ : ∃ z, ns.getD k 0 = z := ⟨_, rfl⟩
      rw [hz] at hc hx hst
      replace hx := Lib.hid hx
      have hil := Lib.hid (Lib.itoa_length_le z hx.out.1 hx.out.2)
      clear hz hsl
      go_wp2_with fail
      refine (writeByte_any B b _ 32 32 (Lib.hid rfl) _ (Lib.hid hr.out.d) (Lib.hid (by have := hll.out; omega))).mono ?_
      rintro e w2 ⟨rfl, h2, b2, k2⟩
      have hP2 : Hid (PLs B b g ns (l ++ (wd.data.toList ++ Tx.sp (ns.take k)) ++ [32]) w w2) := Lib.hid ⟨h2.out, hr.out.r.kept k2.out hg.out, hr.out.b.trans b2⟩
      clear h2 b2 k2 hr hc
      go_wp2_with fail
      refine (itoa_any z hx.out w2 B (tab_on hT hP2.out.b)).mono ?_
      rintro e w3 ⟨rfl, b3⟩
      have hP3 := Lib.hid (hP2.out.below b3)
      clear hP2 b3
      go_wp2_with fail
      refine (writeString_any B b _ _ w3 (Lib.hid hP3.out.d) (Lib.hid (by have h1 := hll.out; have h2 := hil.out; simp only [List.length_append, List.length_cons, List.length_nil] at h1 ⊢; refine ⟨by omega, ?_⟩; show (Lib.itoa z).toArray.size ≤ _; simp; omega))).mono ?_
      rintro e w4 ⟨rfl, h4, b4, k4⟩
      have hP4 : Hid (PLs B b g ns (l ++ (wd.data.toList ++ Tx.sp (ns.take (k + 1)))) w w4) := Lib.hid ⟨by
        have e := h4.out
        rw [hst.out]
        simpa using e, hP3.out.r.kept k4.out hg.out, hP3.out.b.trans b4⟩
      clear h4 b4 k4 hP3
      go_wp2
      go_roundw
      case rel => exact ⟨k + 1, by omega, by go_num, hP4⟩
      case measure => first | (simp [RowKit.intOf]; done) | (simp [RowKit.intOf]; omega) | omega
    · obtain rfl : k = m := by omega
      have hi5 : ¬ (k : Int) < (k : Int) := by omega
      have e : ns.take k = ns := List.take_of_length_le (by have := hm.out; omega)
      rw [e] at hr
      clear e
      have hsl := Tx.sp_len ns hn.out
      have hll : Hid ((l ++ (wd.data.toList ++ Tx.sp ns)).length ≤ 1000000000) := Lib.hid (by
        have h1 := hl.out
        have h2 := hwd.out
        have h3 := hm.out
        simp only [List.length_append]
        omega)
      clear hsl
      go_wp2_with fail
      refine (writeByte_any B b _ 10 10 (Lib.hid rfl) _ (Lib.hid hr.out.d) hll).mono ?_
      rintro e w2 ⟨rfl, h2, b2, k2⟩
      have hP2 : Hid (PLs B b g ns (l ++ (wd.data.toList ++ Tx.sp ns) ++ [10]) w w2) := Lib.hid ⟨h2.out, hr.out.r.kept k2.out hg.out, hr.out.b.trans b2⟩
      clear h2 b2 k2 hr
      go_wp2
      refine bodyPost_end (v := .tuple #[]) (by simp [results, Tryd.results63, go_sem]) rfl ?_
      exact ⟨rfl, hP2⟩
end Go.Proofs.YtmkjmpkicmadcaaDoor

/- Layer 3, plain: the texts of shops. -/
namespace Pl
open Go.Lib Tx

/-- the number of a word, whatever it is -/
def atoiV (l : List UInt8) : Int := match atoiAll l with
  | .ok n => n
  | .syntax => 0
  | .range => atoiSat l
/-- numbersOf -/
def numsOf (line : List UInt8) : Int × Int × Int :=
  (atoiV (cut (cut line [32]).2.1 [32]).1, atoiV (cut (cut (cut line [32]).2.1 [32]).2.1 [32]).1, atoiV (cut (cut (cut (cut line [32]).2.1 [32]).2.1 [32]).2.1 [32]).1)
def shopB : List UInt8 := [115, 104, 111, 112]
def workB : List UInt8 := [119, 111, 114, 107]
def lineW (w : Wk) : List UInt8 := jn 32 (workB :: [w.a, w.b, w.t].map itoa)
def prtP (side m : Int) (W : List Wk) : List UInt8 := jn 32 (shopB :: [side, m].map itoa) ++ 10 :: W.flatMap fun w => lineW w ++ [10]
/-- read's loop; k counts from 17 down -/
def rdPGo : Nat → List UInt8 → List Wk → List Wk
  | 0, _, acc => acc
  | k + 1, rest, acc => if rest = [] then acc else rdPGo k (cut rest [10]).2.1 (acc ++ [⟨(numsOf (cut rest [10]).1).1, (numsOf (cut rest [10]).1).2.1, (numsOf (cut rest [10]).1).2.2⟩])
def rdP (s : List UInt8) : Int × Int × List Wk := ((numsOf (cut s [10]).1).1, (numsOf (cut s [10]).1).2.1, rdPGo 17 (cut s [10]).2.1 [])
/-- Parse -/
def prsP (s : List UInt8) : Option (Int × Int × List Wk) :=
  if chk (rdP s).1 (rdP s).2.1 (rdP s).2.2 = 0 ∧ prtP (rdP s).1 (rdP s).2.1 (rdP s).2.2 = s then some (rdP s) else none
theorem atoiV_itoa {n : Int} (h : R64 n) : atoiV (itoa n) = n := by
  unfold atoiV
  rw [atoi_itoa h.1 h.2]
theorem numsOf_line {w : Wk} (h : R64 w.a ∧ R64 w.b ∧ R64 w.t) : numsOf (lineW w) = (w.a, w.b, w.t) := by
  have e : lineW w = workB ++ 32 :: (itoa w.a ++ 32 :: (itoa w.b ++ 32 :: itoa w.t)) := rfl
  unfold numsOf
  rw [e, cut_at _ (show (32 : UInt8) ∉ workB by decide)]
  simp only
  rw [cut_at _ (itoa_no32 w.a)]
  simp only
  rw [cut_at _ (itoa_no32 w.b)]
  simp only
  rw [cut_no (itoa_no32 w.t)]
  simp only
  rw [atoiV_itoa h.1, atoiV_itoa h.2.1, atoiV_itoa h.2.2]
theorem numsOf_shop {side m : Int} (h : R64 side ∧ R64 m) : (numsOf (jn 32 (shopB :: [side, m].map itoa))).1 = side ∧ (numsOf (jn 32 (shopB :: [side, m].map itoa))).2.1 = m := by
  have e : jn 32 (shopB :: [side, m].map itoa) = shopB ++ 32 :: (itoa side ++ 32 :: itoa m) := rfl
  unfold numsOf
  rw [e, cut_at _ (show (32 : UInt8) ∉ shopB by decide)]
  simp only
  rw [cut_at _ (itoa_no32 side)]
  simp only
  rw [cut_no (itoa_no32 m)]
  simp only
  exact ⟨atoiV_itoa h.1, atoiV_itoa h.2⟩
theorem rdPGo_prt : ∀ (W : List Wk) (k : Nat) (acc : List Wk), (∀ w ∈ W, R64 w.a ∧ R64 w.b ∧ R64 w.t) → W.length < k → rdPGo k (W.flatMap fun w => lineW w ++ [10]) acc = acc ++ W
  | [], k, acc, _, hk => by
    obtain ⟨k, rfl⟩ : ∃ j, k = j + 1 := ⟨k - 1, by omega⟩
    simp [rdPGo]
  | w :: r, k, acc, h, hk => by
    obtain ⟨k, rfl⟩ : ∃ j, k = j + 1 := ⟨k - 1, by omega⟩
    have e : ((w :: r).flatMap fun w => lineW w ++ [10]) = lineW w ++ 10 :: (r.flatMap fun w => lineW w ++ [10]) := by simp
    rw [e]
    unfold rdPGo
    have hn : (10 : UInt8) ∉ lineW w := line_no10 workB (by decide) [w.a, w.b, w.t]
    rw [if_neg (by simp), cut_at (c := 10) (a := lineW w) _ hn]
    simp only
    rw [numsOf_line (h w List.mem_cons_self)]
    simp only [List.length_cons] at hk
    rw [rdPGo_prt r k _ (fun x hx => h x (List.mem_cons_of_mem _ hx)) (by omega)]
    simp
theorem rdP_prt {side m : Int} {W : List Wk} (h : chk side m W = 0) : rdP (prtP side m W) = (side, m, W) := by
  obtain ⟨h1, h2, h3, h4⟩ := chk_ok h
  have hw : ∀ w ∈ W, R64 w.a ∧ R64 w.b ∧ R64 w.t := fun w hw => by
    obtain ⟨i, hi, rfl⟩ := List.getElem_of_mem hw
    have e : W.getD i noW = W[i] := by rw [List.getD, List.getElem?_eq_getElem hi]; rfl
    have ok := okW_spec (h4 i hi)
    rw [e] at ok
    unfold R64
    omega
  obtain ⟨a, b⟩ := numsOf_shop (side := side) (m := m) (by unfold R64; omega)
  unfold rdP prtP
  rw [cut_at _ (line_no10 shopB (by decide) [side, m])]
  simp only
  rw [a, b, rdPGo_prt W 17 [] hw (by omega)]
  rfl
theorem prsP_prt {side m : Int} {W : List Wk} (h : chk side m W = 0) : prsP (prtP side m W) = some (side, m, W) := by
  unfold prsP
  rw [rdP_prt h]
  simp only
  rw [if_pos ⟨h, trivial⟩]
theorem prsP_some {s : List UInt8} {side m : Int} {W : List Wk} (h : prsP s = some (side, m, W)) : chk side m W = 0 ∧ prtP side m W = s := by
  unfold prsP at h
  split at h
  · rename_i hc
    simp only [Option.some.injEq] at h
    rw [h] at hc
    exact hc
  · cases h

/-- the specification's Parse: all numbers have one digit -/
def at8 (s : List UInt8) (i : Nat) : Int := ((s.getD i 0).toNat : Int) - 48
def wkGo (s : List UInt8) : Nat → Nat → List Wk → List Wk
  | 0, _, acc => acc
  | k + 1, p, acc => if p + 11 ≤ s.length then wkGo s k (p + 11) (acc ++ [⟨at8 s (p + 5), at8 s (p + 7), at8 s (p + 9)⟩]) else acc
def rprsP (s : List UInt8) : Option (Int × Int × List Wk) :=
  if s.length < 9 then none
  else if chk (at8 s 5) (at8 s 7) (wkGo s 17 9 []) = 0 ∧ prtP (at8 s 5) (at8 s 7) (wkGo s 17 9 []) = s then some (at8 s 5, at8 s 7, wkGo s 17 9 []) else none
theorem itoa_dig {n : Int} (h0 : 0 ≤ n) (h9 : n ≤ 9) : itoa n = [UInt8.ofNat (48 + n.toNat)] := by
  unfold itoa
  rw [if_neg (by omega), decDigits, dif_pos (by omega)]
theorem at8_drop {s : List UInt8} {p i : Nat} {l : List UInt8} (h : s.drop p = l) : at8 s (p + i) = at8 l i := by
  subst h
  unfold at8
  rw [List.getD, List.getD, List.getElem?_drop]
theorem dig_val {n : Int} (h0 : 0 ≤ n) (h9 : n ≤ 9) : (((UInt8.ofNat (48 + n.toNat)).toNat : Nat) : Int) - 48 = n := by
  rw [UInt8.toNat_ofNat']
  omega
theorem wkGo_prt (s : List UInt8) : ∀ (W : List Wk) (k p : Nat) (acc : List Wk), (∀ w ∈ W, (0 ≤ w.a ∧ w.a ≤ 9) ∧ (0 ≤ w.b ∧ w.b ≤ 9) ∧ 0 ≤ w.t ∧ w.t ≤ 9) → W.length ≤ k → p ≤ s.length → s.drop p = (W.flatMap fun w => lineW w ++ [10]) → wkGo s k p acc = acc ++ W
  | [], k, p, acc, _, _, hp, h => by
    have hl := congrArg List.length h
    simp at hl
    cases k with
    | zero => simp [wkGo]
    | succ k => rw [wkGo, if_neg (by omega)]; simp
  | w :: r, k, p, acc, hW, hk, hp, h => by
    obtain ⟨k, rfl⟩ : ∃ j, k = j + 1 := ⟨k - 1, by simp only [List.length_cons] at hk; omega⟩
    obtain ⟨⟨a1, a2⟩, ⟨b1, b2⟩, c1, c2⟩ := hW w List.mem_cons_self
    have e : ((w :: r).flatMap fun w => lineW w ++ [10]) = [119, 111, 114, 107, 32, UInt8.ofNat (48 + w.a.toNat), 32, UInt8.ofNat (48 + w.b.toNat), 32, UInt8.ofNat (48 + w.t.toNat), 10] ++ (r.flatMap fun w => lineW w ++ [10]) := by
      simp [lineW, jn, workB, itoa_dig a1 a2, itoa_dig b1 b2, itoa_dig c1 c2]
    rw [e] at h
    have hl := congrArg List.length h
    simp only [List.length_drop, List.length_append, List.length_cons, List.length_nil] at hl
    have d : s.drop (p + 11) = (r.flatMap fun w => lineW w ++ [10]) := by rw [← List.drop_drop, h]; rfl
    have v1 : at8 s (p + 5) = w.a := by rw [at8_drop h]; exact dig_val a1 a2
    have v2 : at8 s (p + 7) = w.b := by rw [at8_drop h]; exact dig_val b1 b2
    have v3 : at8 s (p + 9) = w.t := by rw [at8_drop h]; exact dig_val c1 c2
    rw [wkGo, if_pos (by omega), v1, v2, v3, wkGo_prt s r k (p + 11) _ (fun x hx => hW x (List.mem_cons_of_mem _ hx)) (by simp only [List.length_cons] at hk; omega) (by omega) d]
    simp
theorem rprsP_prt {side m : Int} {W : List Wk} (h : chk side m W = 0) : rprsP (prtP side m W) = some (side, m, W) := by
  obtain ⟨h1, h2, h3, h4⟩ := chk_ok h
  have hw : ∀ w ∈ W, (0 ≤ w.a ∧ w.a ≤ 9) ∧ (0 ≤ w.b ∧ w.b ≤ 9) ∧ 0 ≤ w.t ∧ w.t ≤ 9 := fun w hw => by
    obtain ⟨i, hi, rfl⟩ := List.getElem_of_mem hw
    have e : W.getD i noW = W[i] := by rw [List.getD, List.getElem?_eq_getElem hi]; rfl
    have ok := okW_spec (h4 i hi)
    rw [e] at ok
    omega
  have e : prtP side m W = [115, 104, 111, 112, 32, UInt8.ofNat (48 + side.toNat), 32, UInt8.ofNat (48 + m.toNat), 10] ++ (W.flatMap fun w => lineW w ++ [10]) := by
    simp [prtP, jn, shopB, itoa_dig (show (0 : Int) ≤ side by omega) (show side ≤ 9 by omega), itoa_dig (show (0 : Int) ≤ m by omega) (show m ≤ 9 by omega)]
  have hl := congrArg List.length e
  simp only [List.length_append, List.length_cons, List.length_nil] at hl
  have v1 : at8 (prtP side m W) 5 = side := by rw [e]; exact dig_val (by omega) (by omega)
  have v2 : at8 (prtP side m W) 7 = m := by rw [e]; exact dig_val (by omega) (by omega)
  have v3 : wkGo (prtP side m W) 17 9 [] = W := by
    have := wkGo_prt (prtP side m W) W 17 9 [] hw (by omega) (by omega) (by rw [e]; rfl)
    simpa using this
  unfold rprsP
  rw [if_neg (by omega), v1, v2, v3, if_pos ⟨h, rfl⟩]
theorem rprsP_some {s : List UInt8} {side m : Int} {W : List Wk} (h : rprsP s = some (side, m, W)) : chk side m W = 0 ∧ prtP side m W = s := by
  unfold rprsP at h
  split at h
  · cases h
  · split at h
    · rename_i hc
      simp only [Option.some.injEq, Prod.mk.injEq] at h
      obtain ⟨a, b, c⟩ := h
      rw [a, b, c] at hc
      exact hc
    · cases h
/-- plate reads what the specification reads -/
theorem prsP_rprsP (s : List UInt8) : prsP s = rprsP s := by
  cases h : prsP s with
  | some x =>
    obtain ⟨a, b, c⟩ := x
    obtain ⟨h1, rfl⟩ := prsP_some h
    rw [rprsP_prt h1]
  | none =>
    cases g : rprsP s with
    | none => rfl
    | some x =>
      obtain ⟨a, b, c⟩ := x
      obtain ⟨h1, rfl⟩ := rprsP_some g
      rw [prsP_prt h1] at h
      cases h
end Pl

/- plate.Print of a valid shop. -/
namespace Pl
open Go.Lib Tx
/-- the text behind k workings -/
def pfP (s m : Int) (L : List Wk) (k : Nat) : List UInt8 := (shopB ++ sp [s, m]) ++ [10] ++ (L.take k).flatMap fun l => (workB ++ sp [l.a, l.b, l.t]) ++ [10]
theorem pfP_succ {s m : Int} {L : List Wk} {k : Nat} (h : k < L.length) : pfP s m L (k + 1) = pfP s m L k ++ (workB ++ sp [(L.getD k noW).a, (L.getD k noW).b, (L.getD k noW).t]) ++ [10] := by
  unfold pfP
  rw [List.take_succ_eq_append_getElem h, List.flatMap_append]
  simp [h]
theorem pfP_all (s m : Int) (L : List Wk) (k : Nat) (h : L.length ≤ k) : pfP s m L k = prtP s m L := by
  unfold pfP prtP lineW
  rw [List.take_of_length_le h]
  have e : ∀ l : Wk, jn 32 (workB :: [l.a, l.b, l.t].map itoa) = workB ++ sp [l.a, l.b, l.t] := fun l => jn_sp _ _
  have e2 : jn 32 (shopB :: [s, m].map itoa) = shopB ++ sp [s, m] := jn_sp _ _
  simp only [e, e2]
  simp
theorem flat_lenP {α : Type} (f : α → List UInt8) (c : Nat) : ∀ L : List α, (∀ x ∈ L, (f x).length ≤ c) → (L.flatMap f).length ≤ c * L.length
  | [], _ => by simp
  | x :: r, h => by
    have i := flat_lenP f c r (fun y hy => h y (List.mem_cons_of_mem _ hy))
    have := h x List.mem_cons_self
    simp only [List.flatMap_cons, List.length_append, List.length_cons, Nat.mul_add, Nat.mul_one]
    omega
theorem pfP_len {s m : Int} {L : List Wk} (k : Nat) (hs : R64 s ∧ R64 m) (h : ∀ l ∈ L, R64 l.a ∧ R64 l.b ∧ R64 l.t) (hL : L.length ≤ 1000) : (pfP s m L k).length ≤ 200000 := by
  have h1 := sp_len [s, m] (fun x hx => by
    simp only [List.mem_cons, List.not_mem_nil, or_false] at hx
    rcases hx with rfl | rfl
    · (have q9 := hs.1; unfold Tx.R64 at q9; omega)
    · (have q9 := hs.2; unfold Tx.R64 at q9; omega))
  have h2 := flat_lenP (fun l : Wk => (workB ++ sp [l.a, l.b, l.t]) ++ [10]) 100 (L.take k) (fun l hl => by
    have hl := h l (List.mem_of_mem_take hl)
    have := sp_len [l.a, l.b, l.t] (fun x hx => by
      simp only [List.mem_cons, List.not_mem_nil, or_false] at hx
      rcases hx with rfl | rfl | rfl
      · (have q9 := hl.1; unfold Tx.R64 at q9; omega)
      · (have q9 := hl.2.1; unfold Tx.R64 at q9; omega)
      · (have q9 := hl.2.2; unfold Tx.R64 at q9; omega))
    simp only [List.length_append, List.length_cons, List.length_nil, workB] at this ⊢
    omega)
  have h3 : (L.take k).length ≤ 1000 := by rw [List.length_take]; omega
  unfold pfP
  simp only [List.length_append, List.length_cons, List.length_nil, shopB] at h1 ⊢
  omega
end Pl
namespace Go.Proofs.YtmkjmpkicmadcaaDoor
open Go.RowKit

theorem row_new' (W : World) (ns : List Int) (g : Nat) (hg : g = W.heap.size) : RowAt (W.alloc (Obj.cells (ns.map (Value.int .i64)).toArray 3)) g ns := by subst hg; exact row_new W ns
theorem cell_b {B : Nat} {W W' : World} {p : Addr} {x : Value} (h : W.cell? p = some x) (hb : Below B W W') (hp : p.block < B) : W'.cell? p = some x := (hb.cell hp).trans h

set_option maxRecDepth 100000 in
set_option maxHeartbeats 4000000 in
theorem pPrint_ok (s mm : Int) (a : Option Addr) (m cap : Nat) (L : List Pl.Wk) (hm : Hid (L.length = m)) (hm9 : m ≤ 300) (hR : Hid ((Tx.R64 s ∧ Tx.R64 mm) ∧ ∀ l ∈ L, Tx.R64 l.a ∧ Tx.R64 l.b ∧ Tx.R64 l.t)) (w : World) (hL : Hid (WksAt w a L)) (hT : Hid (Tab w.heap.size w))
    (HC : Hid (∀ W : World, Below w.heap.size w W → Calls Tryd.prog 56 #[.agg #[.int .i64 s, .int .i64 mm, .slice a m cap]] W fun e w' => e = .returned (.int .i64 0) ∧ Below W.heap.size W w')) :
    Calls Tryd.prog 35 #[.agg #[.int .i64 s, .int .i64 mm, .slice a m cap]] w fun e w' => e = .returned (.tuple #[.string ⟨(Pl.prtP s mm L).toArray⟩, .int .i64 0]) ∧ Below w.heap.size w w' := by
  have hlen : Hid (∀ k, (Pl.pfP s mm L k).length ≤ 200000) := Lib.hid fun k => Pl.pfP_len k hR.out.1 hR.out.2 (by have := hm.out; omega)
  go_enter Tryd.func35, Tryd.ntmps35
  go_wp2_with fail
  refine (HC.out _ (by repeat (first | with_reducible exact Below.refl _ _ | with_reducible assumption | refine below_drewN ?_ _ | refine Below.drew ?_ | refine Below.alloc ?_ (by first | (simp; done) | (simp; omega) | omega) _ | refine Below.setCell ?_ (by first | (simp; done) | (simp; omega) | omega) _ | refine Below.trans ?_ (Below.mono (by assumption) (by first | (simp; done) | (simp; omega) | omega))))).mono ?_
  rintro e w1 ⟨rfl, hb1⟩
  have k0 : w1.cell? ⟨w.heap.size, 0, none⟩ = some (.int .i64 s) := kept1 (by simp [go_sem]) hb1
  have k9 : w1.cell? ⟨w.heap.size, 1, none⟩ = some (.int .i64 mm) := kept1 (by simp [go_sem]) hb1
  have k1 : w1.cell? ⟨w.heap.size, 2, none⟩ = some (.slice a m cap) := kept1 (by simp [go_sem]) hb1
  have hbw : Below w.heap.size w w1 := (by repeat (first | with_reducible exact Below.refl _ _ | with_reducible assumption | refine below_drewN ?_ _ | refine Below.drew ?_ | refine Below.alloc ?_ (by first | (simp; done) | (simp; omega) | omega) _ | refine Below.setCell ?_ (by first | (simp; done) | (simp; omega) | omega) _ | refine Below.trans ?_ (Below.mono (by assumption) (by first | (simp; done) | (simp; omega) | omega))))
  have hB : Hid (w.heap.size < w1.heap.size) := Lib.hid (block_lt_of_cell k0)
  have hB1 := hB.out
  clear hb1 HC
  go_wp2_with fail
  have hT1 : Hid (Tab w1.heap.size w1) := Lib.hid (Tab.mono (hT.out.on hbw) (Nat.le_of_lt hB.out))
  refine (pLine_any w1.heap.size w1.heap.size (w1.heap.size + 1) 2 2 [s, mm] [] ⟨#[115, 104, 111, 112]⟩ (Lib.hid rfl) (Lib.hid (fun x hx => by
      simp only [List.mem_cons, List.not_mem_nil, or_false] at hx
      rcases hx with rfl | rfl
      · (have q9 := hR.out.1.1; unfold Tx.R64 at q9; omega)
      · (have q9 := hR.out.1.2; unfold Tx.R64 at q9; omega))) (Lib.hid (by omega)) (Lib.hid (by decide)) (by decide) ((w1.alloc (Obj.cells #[.pointer none, .slice none 0 0] 108)).alloc (Obj.cells #[.int .i64 s, .int .i64 mm] 3)) (tab_on hT1 (by repeat (first | with_reducible exact Below.refl _ _ | with_reducible assumption | refine below_drewN ?_ _ | refine Below.drew ?_ | refine Below.alloc ?_ (by first | (simp; done) | (simp; omega) | omega) _ | refine Below.setCell ?_ (by first | (simp; done) | (simp; omega) | omega) _ | refine Below.trans ?_ (Below.mono (by assumption) (by first | (simp; done) | (simp; omega) | omega)))))
    (Lib.hid ⟨(bd_new w1).below (by repeat (first | with_reducible exact Below.refl _ _ | with_reducible assumption | refine below_drewN ?_ _ | refine Below.drew ?_ | refine Below.alloc ?_ (by first | (simp; done) | (simp; omega) | omega) _ | refine Below.setCell ?_ (by first | (simp; done) | (simp; omega) | omega) _ | refine Below.trans ?_ (Below.mono (by assumption) (by first | (simp; done) | (simp; omega) | omega)))), row_new' _ [s, mm] _ (by simp), Below.refl _ _⟩)).mono ?_
  rintro e w2 ⟨rfl, h2⟩
  have hb2 : Below w1.heap.size w1 w2 := by
    refine Below.trans ?_ h2.out.b
    exact (by repeat (first | with_reducible exact Below.refl _ _ | with_reducible assumption | refine below_drewN ?_ _ | refine Below.drew ?_ | refine Below.alloc ?_ (by first | (simp; done) | (simp; omega) | omega) _ | refine Below.setCell ?_ (by first | (simp; done) | (simp; omega) | omega) _ | refine Below.trans ?_ (Below.mono (by assumption) (by first | (simp; done) | (simp; omega) | omega))))
  have hd : Hid (Bd w1.heap.size w1.heap.size (Pl.pfP s mm L 0) w2) := Lib.hid (by simpa [Pl.pfP, Pl.shopB] using h2.out.d)
  replace k1 := cell_b k1 hb2 hB.out
  have hT2 : Hid (Tab w1.heap.size w2) := tab_on hT1 hb2
  have hbw2 : Below w.heap.size w w2 := hbw.trans (hb2.mono (Nat.le_of_lt hB.out))
  clear h2 hb2 hbw hT1 k0 k9 hB1
  have hz2 := hd.out.2
  generalize w1.heap.size = B at hd hT2 hB hz2 ⊢
  go_wp2
  go_loopw [22] (fun i wr => ∃ k : Nat, k ≤ m ∧ i = .int .i64 k ∧ Hid (Bd B B (Pl.pfP s mm L k) wr) ∧ Hid (Tab B wr) ∧ Below w.heap.size w wr) (fun i _ => m - (RowKit.intOf i).toNat)
  case atStart => exact ⟨0, Nat.zero_le _, rfl, hd, hT2, hbw2⟩
  case round =>
    obtain ⟨k, hk, rfl, hd, hT, hb⟩ := hrel
    by_cases hlt : k < m
    · obtain ⟨f, t, mo, hl⟩ : ∃ f t mo, L.getD k Pl.noW = ⟨f, t, mo⟩ := ⟨_, _, _, rfl⟩
      have hkL : k < L.length := by have := hm.out; omega
      have hl3 := (hL.out k hkL)
      obtain ⟨x, rfl, hl3⟩ := hl3
      have ⟨hc0, hc1, hc2⟩ := hl3.below hb
      have hr := hR.out.2 (L.getD k Pl.noW) (by rw [List.getD, List.getElem?_eq_getElem hkL]; exact List.getElem_mem hkL)
      have hst := Lib.hid (Pl.pfP_succ (s := s) (m := mm) hkL)
      rw [hl] at hc0 hc1 hc2 hr hst
      simp only at hr
      replace hr := Lib.hid hr
      clear hl3 hl
      have hi5 : (k : Int) < (m : Int) := by omega
      go_wp2_with fail
      refine (pLine_any B B (wr.heap.size + 1) 3 3 [f, t, mo] (Pl.pfP s mm L k) ⟨#[119, 111, 114, 107]⟩ (Lib.hid rfl) (Lib.hid (fun x hx => by
          simp only [List.mem_cons, List.not_mem_nil, or_false] at hx
          rcases hx with rfl | rfl | rfl
          · (have q9 := hr.out.1; unfold Tx.R64 at q9; omega)
          · (have q9 := hr.out.2.1; unfold Tx.R64 at q9; omega)
          · (have q9 := hr.out.2.2; unfold Tx.R64 at q9; omega))) (Lib.hid (by have := hd.out.2; omega)) (Lib.hid (by have h1 := hlen.out k; exact ⟨by omega, by decide, by decide⟩)) (by decide) ((wr.alloc (Obj.cells #[.int .i64 f, .int .i64 t, .int .i64 mo] 69)).alloc (Obj.cells #[.int .i64 f, .int .i64 t, .int .i64 mo] 3)) (tab_on hT (Below.mono (by repeat (first | with_reducible exact Below.refl _ _ | with_reducible assumption | refine below_drewN ?_ _ | refine Below.drew ?_ | refine Below.alloc ?_ (by first | (simp; done) | (simp; omega) | omega) _ | refine Below.setCell ?_ (by first | (simp; done) | (simp; omega) | omega) _ | refine Below.trans ?_ (Below.mono (by assumption) (by first | (simp; done) | (simp; omega) | omega)))) hd.out.2))
        (Lib.hid ⟨hd.out.below (by repeat (first | with_reducible exact Below.refl _ _ | with_reducible assumption | refine below_drewN ?_ _ | refine Below.drew ?_ | refine Below.alloc ?_ (by first | (simp; done) | (simp; omega) | omega) _ | refine Below.setCell ?_ (by first | (simp; done) | (simp; omega) | omega) _ | refine Below.trans ?_ (Below.mono (by assumption) (by first | (simp; done) | (simp; omega) | omega)))), row_new' _ [f, t, mo] _ (by simp), Below.refl _ _⟩)).mono ?_
      rintro e w3 ⟨rfl, h3⟩
      have hb3 : Below B wr w3 := by
        refine Below.trans ?_ h3.out.b
        exact Below.mono (by repeat (first | with_reducible exact Below.refl _ _ | with_reducible assumption | refine below_drewN ?_ _ | refine Below.drew ?_ | refine Below.alloc ?_ (by first | (simp; done) | (simp; omega) | omega) _ | refine Below.setCell ?_ (by first | (simp; done) | (simp; omega) | omega) _ | refine Below.trans ?_ (Below.mono (by assumption) (by first | (simp; done) | (simp; omega) | omega)))) hd.out.2
      have hd3 : Hid (Bd B B (Pl.pfP s mm L (k + 1)) w3) := Lib.hid (by rw [hst.out]; exact h3.out.d)
      have hT3 := tab_on hT hb3
      have hbw3 : Below w.heap.size w w3 := hb.trans (hb3.mono (Nat.le_of_lt hB.out))
      clear h3 hb3 hT hd hb
      go_wp2
      go_roundw
      case rel => exact ⟨k + 1, by omega, by go_num, hd3, hT3, hbw3⟩
      case measure => first | (simp [RowKit.intOf]; done) | (simp [RowKit.intOf]; omega) | omega
    · obtain rfl : k = m := by omega
      have hi5 : ¬ (k : Int) < (k : Int) := by omega
      go_wp2_with fail
      refine (builderString_any B B _ wr hd).mono ?_
      rintro e w3 ⟨rfl, hb3⟩
      have hbw3 : Below w.heap.size w w3 := hb.trans (hb3.mono (Nat.le_of_lt hB.out))
      rw [Pl.pfP_all s mm L k (by have := hm.out; omega)]
      go_wp2
      go_ret2
      exact ⟨rfl, hbw3⟩

end Go.Proofs.YtmkjmpkicmadcaaDoor

/- A region that draws its order and whose last operations come in one forced order: its head as a region of its own, and then the tail as a list. (Any step of the head may make or write memory.) -/
namespace Go.Proofs.YtmkjmpkicmadcaaDoor
open Go.RowKit

section
variable {P : Program} {md : Region.Mode} {Q : Exit → Act → World → Prop}

theorem any_more {ops : Array Oper} : ∀ (f : Nat) (listed : Array Bool) (a : Act) (w : World), wpAny P md ops Q f listed a w → wpAny P md ops Q (f + 1) listed a w
  | 0, listed, a, w, h => ⟨fun _ => h.2, fun i hi => by rw [h.1] at hi; cases hi⟩
  | f + 1, listed, a, w, h => ⟨h.1, fun i hi => wpOp_mono (fun a' w' h' => any_more f _ a' w' h') (h.2 i hi)⟩
theorem any_moreN {ops : Array Oper} (g : Nat) {listed : Array Bool} {a : Act} {w : World} (h : wpAny P md ops Q g listed a w) : ∀ f, wpAny P md ops Q (f + g) listed a w
  | 0 => by rw [Nat.zero_add]; exact h
  | f + 1 => by rw [show f + 1 + g = (f + g) + 1 by omega]; exact any_more _ _ _ _ (any_moreN g h f)

/-- what follows the head -/
def thenTail (P : Program) (ops : Array Oper) (Q : Exit → Act → World → Prop) (l : List Oper) : Exit → Act → World → Prop
  | .normal, a, w => wpList P ops Q l a w
  | e, a, w => Q e a w
theorem lets_tail {ops : Array Oper} {l : List Oper} (h : LetsOut (thenTail P ops Q l)) : LetsOut Q := by
  obtain ⟨a, w, h⟩ := h
  exact ⟨a, w, h⟩
theorem wp_tail {ops : Array Oper} {l : List Oper} {o : Oper} {K K' : Act → World → Prop} {a : Act} {w : World} (hK : ∀ a w, K a w → K' a w) (h : o.wp P a w K (thenTail P ops Q l)) : o.wp P a w K' Q := by
  unfold Oper.wp at *
  generalize (execOp a.eval o).run P w = r at *
  cases r with
  | ok x w' =>
    cases x with
    | value v => exact hK _ _ h
    | skip => exact hK _ _ h
    | defer d => exact hK _ _ h
    | enter f args =>
      refine Calls.mono (h : Calls P f args w' _) ?_
      intro e w'' hh
      cases e with
      | returned v => exact hK _ _ hh
      | panicked c => exact hh
      | outgrown => exact lets_tail hh
    | row r args => exact Rows.mono (h : Rows P r args w' _) fun v w'' hh => hK _ _ hh
    | _ => exact h.elim
  | halt x w' =>
    cases x with
    | panic v => exact h
    | _ => exact h.elim

/-- no operation of the head waits for a later one, none is guarded -/
def headB (md : Region.Mode) (l : List Oper) : Bool := (List.range l.length).all fun i => match l[i]? with
  | some o => o.guard.isNone && o.after.all fun e => !Region.binds md e || decide (e.on < i)
  | none => true
theorem head_spec {l : List Oper} (h : headB md l = true) {i : Nat} {o : Oper} (hi : l[i]? = some o) : o.guard = none ∧ ∀ e ∈ o.after, Region.binds md e = true → e.on < i := by
  have hl : i < l.length := (List.getElem?_eq_some_iff.1 hi).1
  have h1 := List.all_eq_true.1 h i (List.mem_range.2 hl)
  rw [hi] at h1
  simp only [Bool.and_eq_true, Option.isNone_iff_eq_none] at h1
  refine ⟨h1.1, fun e he hb => ?_⟩
  have h2 := Array.all_eq_true'.1 h1.2 e he
  simpa [hb] using h2

/-- the marks of what is done, within the head -/
def doneHead (n : Nat) (l2 : Array Bool) (m : Nat) : Array Bool := (Array.range m).map fun i => decide (i < n) && l2.getD i true

theorem head_all {H : List Oper} {l2 : Array Bool} (hb : headB md H = true) (hsz : l2.size = H.length) (hr : Region.ready md H.toArray l2 = []) : ∀ i, i < H.length → l2.getD i true = true := by
  intro i
  induction i using Nat.strongRecOn with
  | _ i ih =>
    intro hi
    cases e : l2.getD i true with
    | true => rfl
    | false =>
      have ho : H[i]? = some H[i] := List.getElem?_eq_getElem hi
      have hm : i ∈ Region.ready md H.toArray l2 := mem_ready.2 ⟨e, H[i], by rw [List.getElem?_toArray]; exact ho, fun ed hed hbd => by
        have h1 := (head_spec hb ho).2 ed hed hbd
        have h2 := ih ed.on h1 (by omega)
        have h3 : ed.on < l2.size := by omega
        simp [h3] at h2 ⊢; exact h2⟩
      rw [hr] at hm
      cases hm

theorem any_head {ops : List Oper} {n : Nat} (hs : Region.sinkB md ops.toArray n = true) (hc : Region.chainB md ops.toArray n = true) (hn : n < ops.length) (hb : headB md (ops.take n) = true)
    (hseq : ∀ listed : Array Bool, listed.size = ops.length → (∀ i, i < n → listed.getD i true = true) → (∀ t, n ≤ t → t < ops.length → listed.getD t true = false) → Region.seqB md ops.toArray (ops.drop n).length n listed = true) :
    ∀ (f : Nat) (listed l2 : Array Bool) (a : Act) (w : World), HeadInv md ops.toArray n listed → l2.size = n → (∀ i, i < n → l2.getD i true = listed.getD i true) →
      wpAny P md (ops.take n).toArray (thenTail P ops.toArray Q (ops.drop n)) f l2 a w → wpAny P md ops.toArray Q (f + (ops.drop n).length) listed a w := by
  have hlen : (ops.take n).length = n := by rw [List.length_take]; omega
  have fin : ∀ (listed l2 : Array Bool) (a : Act) (w : World), HeadInv md ops.toArray n listed → l2.size = n → (∀ i, i < n → l2.getD i true = listed.getD i true) → Region.ready md (ops.take n).toArray l2 = [] → wpList P ops.toArray Q (ops.drop n) a w → wpAny P md ops.toArray Q (ops.drop n).length listed a w := by
    intro listed l2 a w inv h1 h2 hr h
    have hall := head_all hb (by rw [hlen]; exact h1) hr
    rw [hlen] at hall
    refine wpAny_of_seq (ops.drop n) n listed a w (fun j => by rw [List.getElem?_drop, List.getElem?_toArray]) (hseq listed (by simpa using inv.size) (fun i hi => by rw [← h2 i hi]; exact hall i hi) (fun t ht ht2 => inv.tail t ht (by simpa using ht2))) h
  intro f
  induction f with
  | zero =>
    intro listed l2 a w inv h1 h2 h
    rw [Nat.zero_add]
    exact fin listed l2 a w inv h1 h2 h.1 h.2
  | succ f ih =>
    intro listed l2 a w inv h1 h2 h
    by_cases hr : Region.ready md (ops.take n).toArray l2 = []
    · exact any_moreN _ (fin listed l2 a w inv h1 h2 hr (h.1 hr)) (f + 1)
    · have mem : ∀ i, i < n → (i ∈ Region.ready md ops.toArray listed ↔ i ∈ Region.ready md (ops.take n).toArray l2) := by
        intro i hi
        have e1 : (ops.take n).toArray[i]? = ops.toArray[i]? := by rw [List.getElem?_toArray, List.getElem?_toArray, List.getElem?_take_of_lt hi]
        have key : ∀ o, ops.toArray[i]? = some o → ∀ e ∈ o.after, Region.binds md e = true → (listed.getD e.on false = l2.getD e.on false) := by
          intro o ho e he hbd
          have hlt := (head_spec hb (i := i) (o := o) (by rw [List.getElem?_take_of_lt hi]; simpa using ho)).2 e he hbd
          have h3 := h2 e.on (by omega)
          have s1 : e.on < l2.size := by omega
          have s2 : e.on < listed.size := by have := inv.size; simp at this; omega
          simp [s1, s2] at h3 ⊢
          exact h3.symm
        rw [mem_ready, mem_ready, e1, h2 i hi]
        constructor
        · rintro ⟨g1, o, ho, g2⟩; exact ⟨g1, o, ho, fun e he hbd => by rw [← key o ho e he hbd]; exact g2 e he hbd⟩
        · rintro ⟨g1, o, ho, g2⟩; exact ⟨g1, o, ho, fun e he hbd => by rw [key o ho e he hbd]; exact g2 e he hbd⟩
      obtain ⟨i0, hi0⟩ := List.exists_mem_of_ne_nil _ hr
      have hi0n : i0 < n := by
        obtain ⟨_, o, ho, _⟩ := mem_ready.1 hi0
        have h5 := (Array.getElem?_eq_some_iff.1 ho).1
        rw [List.size_toArray, hlen] at h5
        exact h5
      have hun : listed.getD i0 true = false := by rw [← h2 i0 hi0n]; exact (mem_ready.1 hi0).1
      rw [show f + 1 + (ops.drop n).length = (f + (ops.drop n).length) + 1 by omega]
      refine ⟨fun h0 => absurd ((mem i0 hi0n).2 hi0) (by rw [h0]; simp), fun i hi => ?_⟩
      have hin : i < n := by
        rcases Nat.lt_or_ge i n with h3 | h3
        · exact h3
        · exact absurd hi (tail_waits hs hc (by simpa using hn) inv _ i0 rfl hi0n hun i h3)
      have hi2 := (mem i hin).1 hi
      have hstep := h.2 i hi2
      have e1 : (ops.take n).toArray[i]? = ops.toArray[i]? := by rw [List.getElem?_toArray, List.getElem?_toArray, List.getElem?_take_of_lt hin]
      obtain ⟨_, o, ho, _⟩ := mem_ready.1 hi
      have hg := (head_spec hb (i := i) (o := o) (by rw [List.getElem?_take_of_lt hin]; simpa using ho)).1
      unfold wpOp at hstep ⊢
      rw [e1] at hstep
      rw [ho] at hstep ⊢
      have hw : ∀ y, Region.wanted o y = true := fun y => by unfold Region.wanted; rw [hg]
      simp only [hw, if_true] at hstep ⊢
      have next : ∀ a' w', wpAny P md (ops.take n).toArray (thenTail P ops.toArray Q (ops.drop n)) f (l2.setIfInBounds i true) a' w' → wpAny P md ops.toArray Q (f + (ops.drop n).length) (listed.setIfInBounds i true) a' w' := fun a' w' h' =>
        ih _ _ a' w' (inv.set hi hin) (by simp [h1]) (fun j hj => by
          by_cases e : i = j
          · subst e
            have s1 : i < l2.size := by omega
            have s2 : i < listed.size := by have := inv.size; simp at this; omega
            simp [s1, s2]
          · rw [getD_set_ne true e, getD_set_ne true e]; exact h2 j hj) h'
      rcases hstep with h' | ⟨h', hl⟩
      · exact .inl (wp_tail next h')
      · exact .inr ⟨h', lets_tail hl⟩

/-- the checks on a region whose head is n operations -/
def tailOk (l : List Oper) (n : Nat) : Bool :=
  Region.sinkB .any l.toArray n && Region.chainB .any l.toArray n && decide (n < l.length) && headB .any (l.take n) && Region.seqB .any l.toArray (l.drop n).length n (List.replicate n true ++ List.replicate (l.length - n) false).toArray

theorem listed_eq {listed : Array Bool} {n m : Nat} (hn : n ≤ m) (h1 : listed.size = m) (h2 : ∀ i, i < n → listed.getD i true = true) (h3 : ∀ t, n ≤ t → t < m → listed.getD t true = false) : listed = (List.replicate n true ++ List.replicate (m - n) false).toArray := by
  apply Array.ext_getElem?
  intro i
  have e0 : (List.replicate n true ++ List.replicate (m - n) false).toArray[i]? = (List.replicate n true ++ List.replicate (m - n) false)[i]? := by simp only [List.getElem?_toArray]
  refine Eq.trans ?_ e0.symm
  by_cases e : i < n
  · have g1 : i < listed.size := by omega
    have h4 := h2 i e
    simp [g1] at h4
    rw [Array.getElem?_eq_getElem g1, h4, List.getElem?_append_left (by simpa using e), List.getElem?_replicate, if_pos e]
  · by_cases e2 : i < m
    · have g1 : i < listed.size := by omega
      have h4 := h3 i (by omega) e2
      simp [g1] at h4
      rw [Array.getElem?_eq_getElem g1, h4, List.getElem?_append_right (by simpa using Nat.le_of_not_lt e), List.getElem?_replicate, if_pos (by simp; omega)]
    · rw [Array.getElem?_eq_none (by omega), List.getElem?_eq_none (by simp; omega)]

theorem region_head_held {id : Nat} {l : List Oper} {a : Act} {w : World} (n : Nat) (S : World → Prop) (hm : P.follows .mixedOrders = true) (hB : tailOk l n = true) (hS : S w.drew)
    (h : S w.drew → wpAnyH P .any (l.take n).toArray (thenTail P l.toArray Q (l.drop n)) S n (Array.replicate n false) a w.drew) : (Code.region id l.toArray true).wp P Q a w := by
  simp only [tailOk, Bool.and_eq_true, decide_eq_true_eq] at hB
  obtain ⟨⟨⟨⟨h1, h2⟩, h3⟩, h4⟩, h5⟩ := hB
  refine wp_region_any hm ?_
  have h6 := any_head (Q := Q) h1 h2 h3 h4 (fun listed g1 g2 g3 => by rw [listed_eq (Nat.le_of_lt h3) g1 g2 g3]; exact h5) n (Array.replicate l.length false) (Array.replicate n false) a w.drew
    ⟨by simp, (fun j oj hj hl => by rw [getD_replicate_false] at hl; cases hl), fun t ht ht2 => by simp at ht2; simp [ht2]⟩ (by simp) (fun i hi => by simp [hi, show i < l.length by omega]) (wpAny_of_held _ _ _ _ (h hS))
  rw [List.length_drop] at h6
  rw [show l.toArray.size = n + (l.length - n) by simp; omega, show Array.replicate (n + (l.length - n)) false = Array.replicate l.length false by congr 1; omega]
  exact h6
end
end Go.Proofs.YtmkjmpkicmadcaaDoor

/- Contracts of package plate: advance. -/
namespace Pl
/-- a working in the direction of a step -/
def dirW (L : List Wk) (k : Int) : Wk := if k < 0 then ⟨(L.getD (wof k).toNat noW).b, (L.getD (wof k).toNat noW).a, (inv (L.getD (wof k).toNat noW).t.toNat : Nat)⟩ else L.getD (wof k).toNat noW
theorem adv_dir (L : List Wk) (s : St) (k : Int) : adv L s k = if (dirW L k).a = s.p then some ⟨(dirW L k).b, cmp s.t (dirW L k).t.toNat, !s.m⟩ else none := by
  unfold adv dirW wof
  split
  · rename_i h
    simp
  · rfl
end Pl
namespace Go.Proofs.YtmkjmpkicmadcaaDoor
open Go.RowKit

/-- a state, as a value -/
def stV (y : Pl.St) : Value := .agg #[.int .i64 y.p, .int .i64 (y.t : Int), .bool y.m]

/-- a working in a box of its own -/
structure DA (X W : World) (lb : Nat) (l : Pl.Wk) : Prop where
  r : W.rowIs lb 69 3 (fun i => if i = 0 then .int .i64 l.a else if i = 1 then .int .i64 l.b else .int .i64 l.t)
  b : Below X.heap.size X W
  g : X.heap.size ≤ lb

theorem da_new (X : World) (f g u : Int) : DA X (X.alloc (Obj.cells #[.int .i64 f, .int .i64 g, .int .i64 u] 69)).drew X.heap.size ⟨f, g, u⟩ :=
  ⟨(World.rowIs_alloc X _ _ _ (fun i hi => by
    match i, hi with
    | 0, _ => rfl
    | 1, _ => rfl
    | 2, _ => rfl)).drew, ((Below.refl _ _).alloc (Nat.le_refl _) _).drew, Nat.le_refl _⟩
theorem DA.set {X W : World} {lb : Nat} {l : Pl.Wk} (h : DA X W lb l) (f g u : Int) : DA X (((W.setCell ⟨lb, 0, none⟩ (.int .i64 f)).setCell ⟨lb, 1, none⟩ (.int .i64 g)).setCell ⟨lb, 2, none⟩ (.int .i64 u)) lb ⟨f, g, u⟩ :=
  ⟨(((h.r.set 0 _).set 1 _).set 2 _).congr (fun i hi => by
    have : i = 0 ∨ i = 1 ∨ i = 2 := by omega
    rcases this with rfl | rfl | rfl <;> simp), ((h.b.setCell (p := ⟨lb, 0, none⟩) h.g _).setCell (p := ⟨lb, 1, none⟩) h.g _).setCell (p := ⟨lb, 2, none⟩) h.g _, h.g⟩
theorem DA.drew {X W : World} {lb : Nat} {l : Pl.Wk} (h : DA X W lb l) : DA X W.drew lb l := ⟨h.r.drew, h.b.drew, h.g⟩
theorem Below.row' {W W' : World} {b : Nat} {T : TypeId} {n : Nat} {f : Nat → Value} (h : Below W.heap.size W W') (hr : W.rowIs b T n f) : W'.rowIs b T n f := hr.of_block (h.block b hr.lt)
theorem stRow {X : World} : (X.alloc (Obj.cells #[.int .i64 0, .int .i64 0, .bool false] 80)).rowIs X.heap.size 80 3 (fun i => if i = 0 then .int .i64 0 else if i = 1 then .int .i64 0 else .bool false) :=
  World.rowIs_alloc X _ _ _ (fun i hi => by
    match i, hi with
    | 0, _ => rfl
    | 1, _ => rfl
    | 2, _ => rfl)

set_option maxRecDepth 100000 in
set_option maxHeartbeats 4000000 in
theorem advance_any (s m : Int) (a : Option Addr) (q cap : Nat) (L : List Pl.Wk) (hq : L.length = q) (hq2 : q ≤ 16) (hok : Hid (Pl.Ok m L)) (p : Int) (t : Nat) (mn : Bool) (ht : t < 8) (k : Int) (hk1 : -(q : Int) ≤ k) (hk2 : k < q) (w : World) (hL : Hid (WksAt w a L)) :
    Calls Tryd.prog 66 #[.agg #[.int .i64 s, .int .i64 m, .slice a q cap], .agg #[.int .i64 p, .int .i64 (t : Int), .bool mn], .int .i64 k] w fun e w' => e = .returned (.tuple (match Pl.adv L ⟨p, t, mn⟩ k with | some y => #[stV y, .bool true] | none => #[.agg #[.int .i64 0, .int .i64 0, .bool false], .bool false])) ∧ Below w.heap.size w w' := by
  obtain ⟨j, hj, hjq⟩ : ∃ j : Nat, Pl.wof k = j ∧ j < q := by
    refine ⟨(Pl.wof k).toNat, ?_, ?_⟩ <;> (unfold Pl.wof; split <;> omega)
  rw [Pl.adv_dir]
  have hdir : Pl.dirW L k = if k < 0 then ⟨(L.getD j Pl.noW).b, (L.getD j Pl.noW).a, (Pl.inv (L.getD j Pl.noW).t.toNat : Nat)⟩ else L.getD j Pl.noW := by
    unfold Pl.dirW
    rw [hj]
    rfl
  have HW := pWorkingOf_any k (by omega) (by omega)
  rw [hj] at HW
  replace HW := Lib.hid HW
  obtain ⟨x, rfl, hl3⟩ := hL.out j (by omega)
  obtain ⟨f, g, u, hl⟩ : ∃ f g u, L.getD j Pl.noW = ⟨f, g, u⟩ := ⟨_, _, _, rfl⟩
  have hokj := Pl.okW_spec (hok.out j (by omega))
  rw [hl] at hl3 hdir hokj
  obtain ⟨o1, o2, o3, o4, o5, o6, o7⟩ := hokj
  simp only at hdir o6 o7
  obtain ⟨un, hun⟩ : ∃ un : Nat, u = un := ⟨u.toNat, by omega⟩
  subst hun
  have hun8 : un < 8 := by omega
  have HI := Lib.hid (pInverse_any un hun8)
  rw [Int.toNat_natCast] at hdir
  replace hdir := Lib.hid hdir
  clear hl hj o1 o2 o3 o4 o5 o6 o7 hok
  obtain ⟨da, db, dc, hdw⟩ : ∃ (da db : Int) (dc : Nat), Pl.dirW L k = ⟨da, db, (dc : Int)⟩ := by
    rw [hdir.out]
    split
    · exact ⟨_, _, _, rfl⟩
    · exact ⟨_, _, _, rfl⟩
  have hdc : dc < 8 := by
    have h := hdw
    rw [hdir.out] at h
    split at h
    · have e := congrArg Pl.Wk.t h
      simp only at e
      have := Pl.inv_lt hun8
      omega
    · have e := congrArg Pl.Wk.t h
      simp only at e
      omega
  have hdir2 : Hid (Pl.Wk.mk da db (dc : Int) = if k < 0 then ⟨g, f, (Pl.inv un : Nat)⟩ else ⟨f, g, (un : Int)⟩) := Lib.hid (by rw [← hdw]; exact hdir.out)
  obtain ⟨rv, hrv⟩ : ∃ rv, (match (if (Pl.dirW L k).a = (⟨p, t, mn⟩ : Pl.St).p then some (⟨(Pl.dirW L k).b, Pl.cmp (⟨p, t, mn⟩ : Pl.St).t (Pl.dirW L k).t.toNat, !(⟨p, t, mn⟩ : Pl.St).m⟩ : Pl.St) else none) with | some y => #[stV y, .bool true] | none => #[.agg #[.int .i64 0, .int .i64 0, .bool false], .bool false]) = rv := ⟨_, rfl⟩
  rw [hrv]
  rw [hdw] at hrv
  simp only [Int.toNat_natCast] at hrv
  replace hrv := Lib.hid hrv
  clear hdw hdir
  have hj1 : (0 : Int) ≤ (j : Int) := by omega
  have hj2 : (j : Int) < (q : Int) := by omega
  have ⟨c0, c1, c2⟩ := hl3
  clear hl3 hL
  go_enter Tryd.func66, Tryd.ntmps66
  go_upto_region 1 with fail
  have zX : Hid ((((w.alloc (Obj.cells #[.int .i64 s, .int .i64 m, .slice (some x) q cap] 34)).alloc (Obj.cells #[.int .i64 p, .int .i64 (t : Int), .bool mn] 80)).alloc (Obj.cells #[.int .i64 0, .int .i64 0, .bool false] 80)).heap.size = w.heap.size + 3) := Lib.hid (by simp)
  have b2 : (((w.alloc (Obj.cells #[.int .i64 s, .int .i64 m, .slice (some x) q cap] 34)).alloc (Obj.cells #[.int .i64 p, .int .i64 (t : Int), .bool mn] 80)).alloc (Obj.cells #[.int .i64 0, .int .i64 0, .bool false] 80)).cell? ⟨w.heap.size, 2, none⟩ = some (.slice (some x) q cap) := by simp [go_sem]
  have d0 : (((w.alloc (Obj.cells #[.int .i64 s, .int .i64 m, .slice (some x) q cap] 34)).alloc (Obj.cells #[.int .i64 p, .int .i64 (t : Int), .bool mn] 80)).alloc (Obj.cells #[.int .i64 0, .int .i64 0, .bool false] 80)).cell? ⟨w.heap.size + 1, 0, none⟩ = some (.int .i64 p) := by simp [go_sem]
  have d1 : (((w.alloc (Obj.cells #[.int .i64 s, .int .i64 m, .slice (some x) q cap] 34)).alloc (Obj.cells #[.int .i64 p, .int .i64 (t : Int), .bool mn] 80)).alloc (Obj.cells #[.int .i64 0, .int .i64 0, .bool false] 80)).cell? ⟨w.heap.size + 1, 1, none⟩ = some (.int .i64 (t : Int)) := by simp [go_sem]
  have d2 : (((w.alloc (Obj.cells #[.int .i64 s, .int .i64 m, .slice (some x) q cap] 34)).alloc (Obj.cells #[.int .i64 p, .int .i64 (t : Int), .bool mn] 80)).alloc (Obj.cells #[.int .i64 0, .int .i64 0, .bool false] 80)).cell? ⟨w.heap.size + 1, 2, none⟩ = some (.bool mn) := by simp [go_sem]
  have rX : (((w.alloc (Obj.cells #[.int .i64 s, .int .i64 m, .slice (some x) q cap] 34)).alloc (Obj.cells #[.int .i64 p, .int .i64 (t : Int), .bool mn] 80)).alloc (Obj.cells #[.int .i64 0, .int .i64 0, .bool false] 80)).rowIs (w.heap.size + 1 + 1) 80 3 (fun i => if i = 0 then .int .i64 0 else if i = 1 then .int .i64 0 else .bool false) := by
    have h := stRow (X := (w.alloc (Obj.cells #[.int .i64 s, .int .i64 m, .slice (some x) q cap] 34)).alloc (Obj.cells #[.int .i64 p, .int .i64 (t : Int), .bool mn] 80))
    simpa using h
  have hv : Below w.heap.size w (((w.alloc (Obj.cells #[.int .i64 s, .int .i64 m, .slice (some x) q cap] 34)).alloc (Obj.cells #[.int .i64 p, .int .i64 (t : Int), .bool mn] 80)).alloc (Obj.cells #[.int .i64 0, .int .i64 0, .bool false] 80)) := below_alloc (below_alloc (below_alloc (Below.refl _ _) _) _) _
  replace c0 := kept1 c0 hv
  replace c1 := kept1 c1 hv
  replace c2 := kept1 c2 hv
  generalize ((w.alloc (Obj.cells #[.int .i64 s, .int .i64 m, .slice (some x) q cap] 34)).alloc (Obj.cells #[.int .i64 p, .int .i64 (t : Int), .bool mn] 80)).alloc (Obj.cells #[.int .i64 0, .int .i64 0, .bool false] 80) = X at *
  go_cut [8] from 9 to 14 (fun s8 wx => ∃ lb, s8 = .pointer (some ⟨lb, 0, none⟩) ∧ Hid (DA X wx lb ⟨f, g, (un : Int)⟩))
  case first =>
    have S0 : X.drew.cell? ⟨w.heap.size, 2, none⟩ = some (.slice (some x) q cap) ∧ X.drew.cell? (x.add (j * 3)) = some (.int .i64 f) ∧ X.drew.cell? ⟨(x.add (j * 3)).block, (x.add (j * 3)).off + 1, none⟩ = some (.int .i64 g) ∧ X.drew.cell? ⟨(x.add (j * 3)).block, (x.add (j * 3)).off + 2, none⟩ = some (.int .i64 (un : Int)) ∧ Below X.heap.size X X.drew := ⟨b2, c0, c1, c2, (Below.refl _ _).drew⟩
    have S1 : X.cell? ⟨w.heap.size, 2, none⟩ = some (.slice (some x) q cap) ∧ X.cell? (x.add (j * 3)) = some (.int .i64 f) ∧ X.cell? ⟨(x.add (j * 3)).block, (x.add (j * 3)).off + 1, none⟩ = some (.int .i64 g) ∧ X.cell? ⟨(x.add (j * 3)).block, (x.add (j * 3)).off + 2, none⟩ = some (.int .i64 (un : Int)) ∧ Below X.heap.size X X := ⟨b2, c0, c1, c2, Below.refl _ _⟩
    clear d0 d1 d2 rX hv
    go_region_held3 (fun w' => w'.cell? ⟨w.heap.size, 2, none⟩ = some (.slice (some x) q cap) ∧ w'.cell? (x.add (j * 3)) = some (.int .i64 f) ∧ w'.cell? ⟨(x.add (j * 3)).block, (x.add (j * 3)).off + 1, none⟩ = some (.int .i64 g) ∧ w'.cell? ⟨(x.add (j * 3)).block, (x.add (j * 3)).off + 2, none⟩ = some (.int .i64 (un : Int)) ∧ Below X.heap.size X w')
      (first | with_reducible exact S0 | with_reducible assumption | exact keep4 S1 (by repeat (first | with_reducible exact Below.refl _ _ | with_reducible assumption | refine below_drewN ?_ _ | refine Below.drew ?_ | refine Below.alloc ?_ (by first | (simp; done) | (simp; omega) | omega) _ | refine Below.setCell ?_ (by first | (simp; done) | (simp; omega) | omega) _ | refine Below.trans ?_ (Below.mono (by assumption) (by first | (simp; done) | (simp; omega) | omega)))))
      (first
        | (with_reducible refine (HW.out _).mono ?_
           rintro e wp ⟨he, hbp⟩
           subst he
           subst hbp))
    all_goals go_wp2_with fail
    all_goals go_meet
    all_goals exact ⟨_, rfl, Lib.hid (da_new X f g (un : Int))⟩
  case rest =>
    generalize wc = Y at hcut ⊢
    clear wc
    obtain ⟨lb, rfl, HT⟩ := hcut
    clear b2 c0 c1 c2 HW
    by_cases hk0 : k < 0
    · have e := hdir2.out
      rw [if_pos hk0] at e
      simp only [Pl.Wk.mk.injEq] at e
      obtain ⟨rfl, rfl, e3⟩ := e
      have g0 : Y.cell? ⟨lb, 0, none⟩ = some (.int .i64 db) := HT.out.r.cell (i := 0) (by omega)
      have g1 : Y.cell? ⟨lb, 1, none⟩ = some (.int .i64 da) := HT.out.r.cell (i := 1) (by omega)
      have g2 : Y.cell? ⟨lb, 2, none⟩ = some (.int .i64 (un : Int)) := HT.out.r.cell (i := 2) (by omega)
      have g0' : Y.drew.cell? ⟨lb, 0, none⟩ = some (.int .i64 db) := g0
      have g1' : Y.drew.cell? ⟨lb, 1, none⟩ = some (.int .i64 da) := g1
      have g2' : Y.drew.cell? ⟨lb, 2, none⟩ = some (.int .i64 (un : Int)) := g2
      have y0 : Y.frozen? ⟨lb, 0, none⟩ = false := HT.out.r.frozen 0
      have y1 : Y.frozen? ⟨lb, 1, none⟩ = false := HT.out.r.frozen 1
      have y2 : Y.frozen? ⟨lb, 2, none⟩ = false := HT.out.r.frozen 2
      have f0 : Y.drew.frozen? ⟨lb, 0, none⟩ = false := HT.out.r.frozen 0
      have f1 : Y.drew.frozen? ⟨lb, 1, none⟩ = false := HT.out.r.frozen 1
      have f2 : Y.drew.frozen? ⟨lb, 2, none⟩ = false := HT.out.r.frozen 2
      rw [← e3] at HI
      clear e3 hdir2
      have HT' := Lib.hid ((HT.out.set da db (dc : Int)).drew)
      have hYb := HT.out.b
      have hlb := HT.out.g
      have S0 : Y.drew.cell? ⟨lb, 0, none⟩ = some (.int .i64 db) ∧ Y.drew.cell? ⟨lb, 1, none⟩ = some (.int .i64 da) ∧ Y.drew.cell? ⟨lb, 2, none⟩ = some (.int .i64 (un : Int)) ∧ Below X.heap.size X Y.drew := ⟨g0, g1, g2, hYb.drew⟩
      clear HT
      go_upto_region 3 with fail
      refine region_head_held 8 (fun w' => w'.cell? ⟨lb, 0, none⟩ = some (.int .i64 db) ∧ w'.cell? ⟨lb, 1, none⟩ = some (.int .i64 da) ∧ w'.cell? ⟨lb, 2, none⟩ = some (.int .i64 (un : Int)) ∧ Below X.heap.size X w') (by kernel_rfl) (by kernel_rfl) S0 (fun hHeld => ?_)
      simp only [List.take_succ_cons, List.take_zero, List.drop_succ_cons, List.drop_zero]
      refine wpAnyH_take (i := 0) (v := ?_) rfl (by kernel_rfl) (by kernel_rfl) (by kernel_rfl) (fun _ _ _ h => h) (Or.inl ⟨by rfl, ?_⟩) (by assumption) ?_
      rotate_left 1
      · (intro w hSw; (try dsimp only at hSw); go_simp; all_goals with_reducible rfl)
      try simp only [Act.put, List.setIfInBounds_toArray, List.set_cons_zero, List.set_cons_succ]
      refine wpAnyH_take (i := 1) (v := ?_) rfl (by kernel_rfl) (by kernel_rfl) (by kernel_rfl) (fun _ _ _ h => h) (Or.inl ⟨by rfl, ?_⟩) (by assumption) ?_
      rotate_left 1
      · (intro w hSw; (try dsimp only at hSw); go_simp; all_goals with_reducible rfl)
      try simp only [Act.put, List.setIfInBounds_toArray, List.set_cons_zero, List.set_cons_succ]
      refine wpAnyH_take (i := 2) (v := ?_) rfl (by kernel_rfl) (by kernel_rfl) (by kernel_rfl) (fun _ _ _ h => h) (Or.inl ⟨by rfl, ?_⟩) (by assumption) ?_
      rotate_left 1
      · (intro w hSw; (try dsimp only at hSw); go_simp; all_goals with_reducible rfl)
      try simp only [Act.put, List.setIfInBounds_toArray, List.set_cons_zero, List.set_cons_succ]
      refine wpAnyH_take (i := 3) (v := ?_) rfl (by kernel_rfl) (by kernel_rfl) (by kernel_rfl) (fun _ _ _ h => h) (Or.inl ⟨by rfl, ?_⟩) (by assumption) ?_
      rotate_left 1
      · (intro w hSw; (try dsimp only at hSw); go_simp; all_goals with_reducible rfl)
      try simp only [Act.put, List.setIfInBounds_toArray, List.set_cons_zero, List.set_cons_succ]
      refine wpAnyH_take (i := 4) (v := ?_) rfl (by kernel_rfl) (by kernel_rfl) (by kernel_rfl) (fun _ _ _ h => h) (Or.inl ⟨by rfl, ?_⟩) (by assumption) ?_
      rotate_left 1
      · (intro w hSw; (try dsimp only at hSw); go_simp; all_goals with_reducible rfl)
      try simp only [Act.put, List.setIfInBounds_toArray, List.set_cons_zero, List.set_cons_succ]
      refine wpAnyH_take (i := 5) (v := ?_) rfl (by kernel_rfl) (by kernel_rfl) (by kernel_rfl) (fun _ _ _ h => h) (Or.inl ⟨by rfl, ?_⟩) (by assumption) ?_
      rotate_left 1
      · (intro w hSw; (try dsimp only at hSw); go_simp; all_goals with_reducible rfl)
      try simp only [Act.put, List.setIfInBounds_toArray, List.set_cons_zero, List.set_cons_succ]
      refine wpAnyH_ready (rs := [6]) (by kernel_rfl) (by simp) ?_
      refine AllReadyH.cons rfl (fun K hK => ?_) ?_
      rotate_left 1
      · exact AllReadyH.nil
      go_simp
      with_reducible refine (HI.out _).mono ?_
      rintro e wp ⟨he, hbp⟩
      subst he
      subst hbp
      refine hK.out _ _ hHeld (fun hHeld2 => ?_)
      clear hK K
      try simp only [Act.put, List.setIfInBounds_toArray, List.set_cons_zero, List.set_cons_succ]
      refine wpAnyH_take (i := 7) (v := ?_) rfl (by kernel_rfl) (by kernel_rfl) (by kernel_rfl) (fun _ _ _ h => h) (Or.inl ⟨by rfl, ?_⟩) (by assumption) ?_
      rotate_left 1
      · (intro w hSw; (try dsimp only at hSw); go_simp; all_goals with_reducible rfl)
      try simp only [Act.put, List.setIfInBounds_toArray, List.set_cons_zero, List.set_cons_succ]
      refine wpAnyH_done (by kernel_rfl) ?_ _
      show wpList _ _ _ _ _ _
      clear hHeld hHeld2 S0
      go_upto_region 4 with fail
      generalize (((Y.setCell ⟨lb, 0, none⟩ (.int .i64 da)).setCell ⟨lb, 1, none⟩ (.int .i64 db)).setCell ⟨lb, 2, none⟩ (.int .i64 (dc : Int))).drew = Z at *
      clear g0 g1 g2 g0' g1' g2' f0 f1 f2 y0 y1 y2
      have HT := HT'
      have g0 : Z.cell? ⟨lb, 0, none⟩ = some (.int .i64 da) := HT.out.r.cell (i := 0) (by omega)
      have g1 : Z.cell? ⟨lb, 1, none⟩ = some (.int .i64 db) := HT.out.r.cell (i := 1) (by omega)
      have g2 : Z.cell? ⟨lb, 2, none⟩ = some (.int .i64 (dc : Int)) := HT.out.r.cell (i := 2) (by omega)
      have e0 := kept1 d0 HT.out.b
      have e1 := kept1 d1 HT.out.b
      have e2 := kept1 d2 HT.out.b
      have rQ := Below.row' HT.out.b rX
      have bY := Lib.hid (hv.trans (HT.out.b.mono hv.size))
      have t0 : Z.cell? ⟨w.heap.size + 1 + 1, 0, none⟩ = some (.int .i64 0) := rQ.cell (i := 0) (by omega)
      have t1 : Z.cell? ⟨w.heap.size + 1 + 1, 1, none⟩ = some (.int .i64 0) := rQ.cell (i := 1) (by omega)
      have t2 : Z.cell? ⟨w.heap.size + 1 + 1, 2, none⟩ = some (.bool false) := rQ.cell (i := 2) (by omega)
      have tz0 := rQ.frozen 0
      have tz1 := rQ.frozen 1
      have tz2 := rQ.frozen 2
      clear HT d0 d1 d2 rX hv
      by_cases hpa : da = p
      · obtain ⟨ct, hct⟩ : ∃ ct, Pl.cmp t dc = ct := ⟨_, rfl⟩
        have hra : rv = #[.agg #[.int .i64 db, .int .i64 (ct : Int), .bool (!mn)], .bool true] := by rw [← hrv.out, if_pos hpa, ← hct]; rfl
        subst hra
        subst hpa
        have HC := pCompose_any t dc ht hdc
        rw [hct] at HC
        replace HC := Lib.hid HC
        clear hct hrv
        go_upto_region 6 with fail
        have S0 : Z.drew.cell? ⟨lb, 1, none⟩ = some (.int .i64 db) ∧ Z.drew.cell? ⟨lb, 2, none⟩ = some (.int .i64 (dc : Int)) ∧ Z.drew.cell? ⟨w.heap.size + 1, 1, none⟩ = some (.int .i64 (t : Int)) ∧ Z.drew.cell? ⟨w.heap.size + 1, 2, none⟩ = some (.bool mn) := ⟨g1, g2, e1, e2⟩
        clear g0 g1 g2 e0 e1 e2
        refine region_head_held 14 (fun w' => w'.cell? ⟨lb, 1, none⟩ = some (.int .i64 db) ∧ w'.cell? ⟨lb, 2, none⟩ = some (.int .i64 (dc : Int)) ∧ w'.cell? ⟨w.heap.size + 1, 1, none⟩ = some (.int .i64 (t : Int)) ∧ w'.cell? ⟨w.heap.size + 1, 2, none⟩ = some (.bool mn)) (by kernel_rfl) (by kernel_rfl) S0 (fun hHeld => ?_)
        simp only [List.take_succ_cons, List.take_zero, List.drop_succ_cons, List.drop_zero]
        refine wpAnyH_take (i := 0) (v := ?_) rfl (by kernel_rfl) (by kernel_rfl) (by kernel_rfl) (fun _ _ _ h => h) (Or.inl ⟨by rfl, ?_⟩) (by assumption) ?_
        rotate_left 1
        · (intro w hSw; (try dsimp only at hSw); go_simp; all_goals with_reducible rfl)
        try simp only [Act.put, List.setIfInBounds_toArray, List.set_cons_zero, List.set_cons_succ]
        refine wpAnyH_take (i := 1) (v := ?_) rfl (by kernel_rfl) (by kernel_rfl) (by kernel_rfl) (fun _ _ _ h => h) (Or.inl ⟨by rfl, ?_⟩) (by assumption) ?_
        rotate_left 1
        · (intro w hSw; (try dsimp only at hSw); go_simp; all_goals with_reducible rfl)
        try simp only [Act.put, List.setIfInBounds_toArray, List.set_cons_zero, List.set_cons_succ]
        refine wpAnyH_take (i := 2) (v := ?_) rfl (by kernel_rfl) (by kernel_rfl) (by kernel_rfl) (fun _ _ _ h => h) (Or.inl ⟨by rfl, ?_⟩) (by assumption) ?_
        rotate_left 1
        · (intro w hSw; (try dsimp only at hSw); go_simp; all_goals with_reducible rfl)
        try simp only [Act.put, List.setIfInBounds_toArray, List.set_cons_zero, List.set_cons_succ]
        refine wpAnyH_take (i := 3) (v := ?_) rfl (by kernel_rfl) (by kernel_rfl) (by kernel_rfl) (fun _ _ _ h => h) (Or.inl ⟨by rfl, ?_⟩) (by assumption) ?_
        rotate_left 1
        · (intro w hSw; (try dsimp only at hSw); go_simp; all_goals with_reducible rfl)
        try simp only [Act.put, List.setIfInBounds_toArray, List.set_cons_zero, List.set_cons_succ]
        refine wpAnyH_take (i := 4) (v := ?_) rfl (by kernel_rfl) (by kernel_rfl) (by kernel_rfl) (fun _ _ _ h => h) (Or.inl ⟨by rfl, ?_⟩) (by assumption) ?_
        rotate_left 1
        · (intro w hSw; (try dsimp only at hSw); go_simp; all_goals with_reducible rfl)
        try simp only [Act.put, List.setIfInBounds_toArray, List.set_cons_zero, List.set_cons_succ]
        refine wpAnyH_take (i := 5) (v := ?_) rfl (by kernel_rfl) (by kernel_rfl) (by kernel_rfl) (fun _ _ _ h => h) (Or.inl ⟨by rfl, ?_⟩) (by assumption) ?_
        rotate_left 1
        · (intro w hSw; (try dsimp only at hSw); go_simp; all_goals with_reducible rfl)
        try simp only [Act.put, List.setIfInBounds_toArray, List.set_cons_zero, List.set_cons_succ]
        refine wpAnyH_take (i := 6) (v := ?_) rfl (by kernel_rfl) (by kernel_rfl) (by kernel_rfl) (fun _ _ _ h => h) (Or.inl ⟨by rfl, ?_⟩) (by assumption) ?_
        rotate_left 1
        · (intro w hSw; (try dsimp only at hSw); go_simp; all_goals with_reducible rfl)
        try simp only [Act.put, List.setIfInBounds_toArray, List.set_cons_zero, List.set_cons_succ]
        refine wpAnyH_take (i := 8) (v := ?_) rfl (by kernel_rfl) (by kernel_rfl) (by kernel_rfl) (fun _ _ _ h => h) (Or.inl ⟨by rfl, ?_⟩) (by assumption) ?_
        rotate_left 1
        · (intro w hSw; (try dsimp only at hSw); go_simp; all_goals with_reducible rfl)
        try simp only [Act.put, List.setIfInBounds_toArray, List.set_cons_zero, List.set_cons_succ]
        refine wpAnyH_take (i := 9) (v := ?_) rfl (by kernel_rfl) (by kernel_rfl) (by kernel_rfl) (fun _ _ _ h => h) (Or.inl ⟨by rfl, ?_⟩) (by assumption) ?_
        rotate_left 1
        · (intro w hSw; (try dsimp only at hSw); go_simp; all_goals with_reducible rfl)
        try simp only [Act.put, List.setIfInBounds_toArray, List.set_cons_zero, List.set_cons_succ]
        refine wpAnyH_take (i := 10) (v := ?_) rfl (by kernel_rfl) (by kernel_rfl) (by kernel_rfl) (fun _ _ _ h => h) (Or.inl ⟨by rfl, ?_⟩) (by assumption) ?_
        rotate_left 1
        · (intro w hSw; (try dsimp only at hSw); go_simp; all_goals with_reducible rfl)
        try simp only [Act.put, List.setIfInBounds_toArray, List.set_cons_zero, List.set_cons_succ]
        refine wpAnyH_take (i := 11) (v := ?_) rfl (by kernel_rfl) (by kernel_rfl) (by kernel_rfl) (fun _ _ _ h => h) (Or.inl ⟨by rfl, ?_⟩) (by assumption) ?_
        rotate_left 1
        · (intro w hSw; (try dsimp only at hSw); go_simp; all_goals with_reducible rfl)
        try simp only [Act.put, List.setIfInBounds_toArray, List.set_cons_zero, List.set_cons_succ]
        refine wpAnyH_ready (rs := [7]) (by kernel_rfl) (by simp) ?_
        refine AllReadyH.cons rfl (fun K hK => ?_) ?_
        rotate_left 1
        · exact AllReadyH.nil
        go_simp
        with_reducible refine (HC.out _).mono ?_
        rintro e wp ⟨he, hbp⟩
        subst he
        subst hbp
        refine hK.out _ _ hHeld (fun hHeld2 => ?_)
        clear hK K
        try simp only [Act.put, List.setIfInBounds_toArray, List.set_cons_zero, List.set_cons_succ]
        refine wpAnyH_take (i := 12) (v := ?_) rfl (by kernel_rfl) (by kernel_rfl) (by kernel_rfl) (fun _ _ _ h => h) (Or.inl ⟨by rfl, ?_⟩) (by assumption) ?_
        rotate_left 1
        · (intro w hSw; (try dsimp only at hSw); go_simp; all_goals with_reducible rfl)
        try simp only [Act.put, List.setIfInBounds_toArray, List.set_cons_zero, List.set_cons_succ]
        refine wpAnyH_take (i := 13) (v := ?_) rfl (by kernel_rfl) (by kernel_rfl) (by kernel_rfl) (fun _ _ _ h => h) (Or.inl ⟨by rfl, ?_⟩) (by assumption) ?_
        rotate_left 1
        · (intro w hSw; (try dsimp only at hSw); go_simp; all_goals with_reducible rfl)
        try simp only [Act.put, List.setIfInBounds_toArray, List.set_cons_zero, List.set_cons_succ]
        refine wpAnyH_done (by kernel_rfl) ?_ _
        show wpList _ _ _ _ _ _
        clear hHeld hHeld2 S0
        have hq0 : (((Z.setCell ⟨w.heap.size + 1 + 1, 0, none⟩ (.int .i64 db)).setCell ⟨w.heap.size + 1 + 1, 1, none⟩ (.int .i64 (ct : Int))).setCell ⟨w.heap.size + 1 + 1, 2, none⟩ (.bool (!mn))).cell? ⟨w.heap.size + 1 + 1, 0, none⟩ = some (.int .i64 db) := (((rQ.set 0 (.int .i64 db)).set 1 (.int .i64 (ct : Int))).set 2 (.bool (!mn))).cell (i := 0) (by omega)
        have hq1 : (((Z.setCell ⟨w.heap.size + 1 + 1, 0, none⟩ (.int .i64 db)).setCell ⟨w.heap.size + 1 + 1, 1, none⟩ (.int .i64 (ct : Int))).setCell ⟨w.heap.size + 1 + 1, 2, none⟩ (.bool (!mn))).cell? ⟨w.heap.size + 1 + 1, 1, none⟩ = some (.int .i64 (ct : Int)) := (((rQ.set 0 (.int .i64 db)).set 1 (.int .i64 (ct : Int))).set 2 (.bool (!mn))).cell (i := 1) (by omega)
        have hq2 : (((Z.setCell ⟨w.heap.size + 1 + 1, 0, none⟩ (.int .i64 db)).setCell ⟨w.heap.size + 1 + 1, 1, none⟩ (.int .i64 (ct : Int))).setCell ⟨w.heap.size + 1 + 1, 2, none⟩ (.bool (!mn))).cell? ⟨w.heap.size + 1 + 1, 2, none⟩ = some (.bool (!mn)) := (((rQ.set 0 (.int .i64 db)).set 1 (.int .i64 (ct : Int))).set 2 (.bool (!mn))).cell (i := 2) (by omega)
        have hZ : Below w.heap.size w (((Z.setCell ⟨w.heap.size + 1 + 1, 0, none⟩ (.int .i64 db)).setCell ⟨w.heap.size + 1 + 1, 1, none⟩ (.int .i64 (ct : Int))).setCell ⟨w.heap.size + 1 + 1, 2, none⟩ (.bool (!mn))) := ((bY.out.setCell (p := ⟨w.heap.size + 1 + 1, 0, none⟩) (by show w.heap.size ≤ w.heap.size + 1 + 1; omega) _).setCell (p := ⟨w.heap.size + 1 + 1, 1, none⟩) (by show w.heap.size ≤ w.heap.size + 1 + 1; omega) _).setCell (p := ⟨w.heap.size + 1 + 1, 2, none⟩) (by show w.heap.size ≤ w.heap.size + 1 + 1; omega) _
        go_wp2
        clear t0 t1 t2 tz0 tz1 tz2
        generalize ((Z.setCell ⟨w.heap.size + 1 + 1, 0, none⟩ (.int .i64 db)).setCell ⟨w.heap.size + 1 + 1, 1, none⟩ (.int .i64 (ct : Int))).setCell ⟨w.heap.size + 1 + 1, 2, none⟩ (.bool (!mn)) = V at *
        refine bodyPost_ret (v := .tuple #[.agg #[.int .i64 db, .int .i64 (ct : Int), .bool (!mn)], .bool true]) (by simp [results, Tryd.results66, go_sem, hq0, hq1, hq2]) rfl ?_
        exact ⟨rfl, hZ.drew⟩
      · have hra : rv = #[.agg #[.int .i64 0, .int .i64 0, .bool false], .bool false] := by rw [← hrv.out, if_neg hpa]
        subst hra
        have n0 : (da != p) = true := by simpa using hpa
        have hq0 : (((Z.setCell ⟨w.heap.size + 1 + 1, 0, none⟩ (.int .i64 0)).setCell ⟨w.heap.size + 1 + 1, 1, none⟩ (.int .i64 0)).setCell ⟨w.heap.size + 1 + 1, 2, none⟩ (.bool false)).cell? ⟨w.heap.size + 1 + 1, 0, none⟩ = some (.int .i64 0) := (((rQ.set 0 (.int .i64 0)).set 1 (.int .i64 0)).set 2 (.bool false)).cell (i := 0) (by omega)
        have hq1 : (((Z.setCell ⟨w.heap.size + 1 + 1, 0, none⟩ (.int .i64 0)).setCell ⟨w.heap.size + 1 + 1, 1, none⟩ (.int .i64 0)).setCell ⟨w.heap.size + 1 + 1, 2, none⟩ (.bool false)).cell? ⟨w.heap.size + 1 + 1, 1, none⟩ = some (.int .i64 0) := (((rQ.set 0 (.int .i64 0)).set 1 (.int .i64 0)).set 2 (.bool false)).cell (i := 1) (by omega)
        have hq2 : (((Z.setCell ⟨w.heap.size + 1 + 1, 0, none⟩ (.int .i64 0)).setCell ⟨w.heap.size + 1 + 1, 1, none⟩ (.int .i64 0)).setCell ⟨w.heap.size + 1 + 1, 2, none⟩ (.bool false)).cell? ⟨w.heap.size + 1 + 1, 2, none⟩ = some (.bool false) := (((rQ.set 0 (.int .i64 0)).set 1 (.int .i64 0)).set 2 (.bool false)).cell (i := 2) (by omega)
        have hZ : Below w.heap.size w (((Z.setCell ⟨w.heap.size + 1 + 1, 0, none⟩ (.int .i64 0)).setCell ⟨w.heap.size + 1 + 1, 1, none⟩ (.int .i64 0)).setCell ⟨w.heap.size + 1 + 1, 2, none⟩ (.bool false)) := ((bY.out.setCell (p := ⟨w.heap.size + 1 + 1, 0, none⟩) (by show w.heap.size ≤ w.heap.size + 1 + 1; omega) _).setCell (p := ⟨w.heap.size + 1 + 1, 1, none⟩) (by show w.heap.size ≤ w.heap.size + 1 + 1; omega) _).setCell (p := ⟨w.heap.size + 1 + 1, 2, none⟩) (by show w.heap.size ≤ w.heap.size + 1 + 1; omega) _
        go_wp2
        clear t0 t1 t2 tz0 tz1 tz2
        generalize ((Z.setCell ⟨w.heap.size + 1 + 1, 0, none⟩ (.int .i64 0)).setCell ⟨w.heap.size + 1 + 1, 1, none⟩ (.int .i64 0)).setCell ⟨w.heap.size + 1 + 1, 2, none⟩ (.bool false) = V at *
        refine bodyPost_ret (v := .tuple #[.agg #[.int .i64 0, .int .i64 0, .bool false], .bool false]) (by simp [results, Tryd.results66, go_sem, hq0, hq1, hq2]) rfl ?_
        exact ⟨rfl, hZ⟩
    · have e := hdir2.out
      rw [if_neg hk0] at e
      simp only [Pl.Wk.mk.injEq] at e
      obtain ⟨rfl, rfl, e3⟩ := e
      rw [← e3] at HT
      clear e3 hdir2 HI
      have g0 : Y.cell? ⟨lb, 0, none⟩ = some (.int .i64 da) := HT.out.r.cell (i := 0) (by omega)
      have g1 : Y.cell? ⟨lb, 1, none⟩ = some (.int .i64 db) := HT.out.r.cell (i := 1) (by omega)
      have g2 : Y.cell? ⟨lb, 2, none⟩ = some (.int .i64 (dc : Int)) := HT.out.r.cell (i := 2) (by omega)
      have e0 := kept1 d0 HT.out.b
      have e1 := kept1 d1 HT.out.b
      have e2 := kept1 d2 HT.out.b
      have rQ := Below.row' HT.out.b rX
      have bY := Lib.hid (hv.trans (HT.out.b.mono hv.size))
      have t0 : Y.cell? ⟨w.heap.size + 1 + 1, 0, none⟩ = some (.int .i64 0) := rQ.cell (i := 0) (by omega)
      have t1 : Y.cell? ⟨w.heap.size + 1 + 1, 1, none⟩ = some (.int .i64 0) := rQ.cell (i := 1) (by omega)
      have t2 : Y.cell? ⟨w.heap.size + 1 + 1, 2, none⟩ = some (.bool false) := rQ.cell (i := 2) (by omega)
      have tz0 := rQ.frozen 0
      have tz1 := rQ.frozen 1
      have tz2 := rQ.frozen 2
      clear HT d0 d1 d2 rX hv
      by_cases hpa : da = p
      · obtain ⟨ct, hct⟩ : ∃ ct, Pl.cmp t dc = ct := ⟨_, rfl⟩
        have hra : rv = #[.agg #[.int .i64 db, .int .i64 (ct : Int), .bool (!mn)], .bool true] := by rw [← hrv.out, if_pos hpa, ← hct]; rfl
        subst hra
        subst hpa
        have HC := pCompose_any t dc ht hdc
        rw [hct] at HC
        replace HC := Lib.hid HC
        clear hct hrv
        go_upto_region 6 with fail
        have S0 : Y.drew.cell? ⟨lb, 1, none⟩ = some (.int .i64 db) ∧ Y.drew.cell? ⟨lb, 2, none⟩ = some (.int .i64 (dc : Int)) ∧ Y.drew.cell? ⟨w.heap.size + 1, 1, none⟩ = some (.int .i64 (t : Int)) ∧ Y.drew.cell? ⟨w.heap.size + 1, 2, none⟩ = some (.bool mn) := ⟨g1, g2, e1, e2⟩
        clear g0 g1 g2 e0 e1 e2
        refine region_head_held 14 (fun w' => w'.cell? ⟨lb, 1, none⟩ = some (.int .i64 db) ∧ w'.cell? ⟨lb, 2, none⟩ = some (.int .i64 (dc : Int)) ∧ w'.cell? ⟨w.heap.size + 1, 1, none⟩ = some (.int .i64 (t : Int)) ∧ w'.cell? ⟨w.heap.size + 1, 2, none⟩ = some (.bool mn)) (by kernel_rfl) (by kernel_rfl) S0 (fun hHeld => ?_)
        simp only [List.take_succ_cons, List.take_zero, List.drop_succ_cons, List.drop_zero]
        refine wpAnyH_take (i := 0) (v := ?_) rfl (by kernel_rfl) (by kernel_rfl) (by kernel_rfl) (fun _ _ _ h => h) (Or.inl ⟨by rfl, ?_⟩) (by assumption) ?_
        rotate_left 1
        · (intro w hSw; (try dsimp only at hSw); go_simp; all_goals with_reducible rfl)
        try simp only [Act.put, List.setIfInBounds_toArray, List.set_cons_zero, List.set_cons_succ]
        refine wpAnyH_take (i := 1) (v := ?_) rfl (by kernel_rfl) (by kernel_rfl) (by kernel_rfl) (fun _ _ _ h => h) (Or.inl ⟨by rfl, ?_⟩) (by assumption) ?_
        rotate_left 1
        · (intro w hSw; (try dsimp only at hSw); go_simp; all_goals with_reducible rfl)
        try simp only [Act.put, List.setIfInBounds_toArray, List.set_cons_zero, List.set_cons_succ]
        refine wpAnyH_take (i := 2) (v := ?_) rfl (by kernel_rfl) (by kernel_rfl) (by kernel_rfl) (fun _ _ _ h => h) (Or.inl ⟨by rfl, ?_⟩) (by assumption) ?_
        rotate_left 1
        · (intro w hSw; (try dsimp only at hSw); go_simp; all_goals with_reducible rfl)
        try simp only [Act.put, List.setIfInBounds_toArray, List.set_cons_zero, List.set_cons_succ]
        refine wpAnyH_take (i := 3) (v := ?_) rfl (by kernel_rfl) (by kernel_rfl) (by kernel_rfl) (fun _ _ _ h => h) (Or.inl ⟨by rfl, ?_⟩) (by assumption) ?_
        rotate_left 1
        · (intro w hSw; (try dsimp only at hSw); go_simp; all_goals with_reducible rfl)
        try simp only [Act.put, List.setIfInBounds_toArray, List.set_cons_zero, List.set_cons_succ]
        refine wpAnyH_take (i := 4) (v := ?_) rfl (by kernel_rfl) (by kernel_rfl) (by kernel_rfl) (fun _ _ _ h => h) (Or.inl ⟨by rfl, ?_⟩) (by assumption) ?_
        rotate_left 1
        · (intro w hSw; (try dsimp only at hSw); go_simp; all_goals with_reducible rfl)
        try simp only [Act.put, List.setIfInBounds_toArray, List.set_cons_zero, List.set_cons_succ]
        refine wpAnyH_take (i := 5) (v := ?_) rfl (by kernel_rfl) (by kernel_rfl) (by kernel_rfl) (fun _ _ _ h => h) (Or.inl ⟨by rfl, ?_⟩) (by assumption) ?_
        rotate_left 1
        · (intro w hSw; (try dsimp only at hSw); go_simp; all_goals with_reducible rfl)
        try simp only [Act.put, List.setIfInBounds_toArray, List.set_cons_zero, List.set_cons_succ]
        refine wpAnyH_take (i := 6) (v := ?_) rfl (by kernel_rfl) (by kernel_rfl) (by kernel_rfl) (fun _ _ _ h => h) (Or.inl ⟨by rfl, ?_⟩) (by assumption) ?_
        rotate_left 1
        · (intro w hSw; (try dsimp only at hSw); go_simp; all_goals with_reducible rfl)
        try simp only [Act.put, List.setIfInBounds_toArray, List.set_cons_zero, List.set_cons_succ]
        refine wpAnyH_take (i := 8) (v := ?_) rfl (by kernel_rfl) (by kernel_rfl) (by kernel_rfl) (fun _ _ _ h => h) (Or.inl ⟨by rfl, ?_⟩) (by assumption) ?_
        rotate_left 1
        · (intro w hSw; (try dsimp only at hSw); go_simp; all_goals with_reducible rfl)
        try simp only [Act.put, List.setIfInBounds_toArray, List.set_cons_zero, List.set_cons_succ]
        refine wpAnyH_take (i := 9) (v := ?_) rfl (by kernel_rfl) (by kernel_rfl) (by kernel_rfl) (fun _ _ _ h => h) (Or.inl ⟨by rfl, ?_⟩) (by assumption) ?_
        rotate_left 1
        · (intro w hSw; (try dsimp only at hSw); go_simp; all_goals with_reducible rfl)
        try simp only [Act.put, List.setIfInBounds_toArray, List.set_cons_zero, List.set_cons_succ]
        refine wpAnyH_take (i := 10) (v := ?_) rfl (by kernel_rfl) (by kernel_rfl) (by kernel_rfl) (fun _ _ _ h => h) (Or.inl ⟨by rfl, ?_⟩) (by assumption) ?_
        rotate_left 1
        · (intro w hSw; (try dsimp only at hSw); go_simp; all_goals with_reducible rfl)
        try simp only [Act.put, List.setIfInBounds_toArray, List.set_cons_zero, List.set_cons_succ]
        refine wpAnyH_take (i := 11) (v := ?_) rfl (by kernel_rfl) (by kernel_rfl) (by kernel_rfl) (fun _ _ _ h => h) (Or.inl ⟨by rfl, ?_⟩) (by assumption) ?_
        rotate_left 1
        · (intro w hSw; (try dsimp only at hSw); go_simp; all_goals with_reducible rfl)
        try simp only [Act.put, List.setIfInBounds_toArray, List.set_cons_zero, List.set_cons_succ]
        refine wpAnyH_ready (rs := [7]) (by kernel_rfl) (by simp) ?_
        refine AllReadyH.cons rfl (fun K hK => ?_) ?_
        rotate_left 1
        · exact AllReadyH.nil
        go_simp
        with_reducible refine (HC.out _).mono ?_
        rintro e wp ⟨he, hbp⟩
        subst he
        subst hbp
        refine hK.out _ _ hHeld (fun hHeld2 => ?_)
        clear hK K
        try simp only [Act.put, List.setIfInBounds_toArray, List.set_cons_zero, List.set_cons_succ]
        refine wpAnyH_take (i := 12) (v := ?_) rfl (by kernel_rfl) (by kernel_rfl) (by kernel_rfl) (fun _ _ _ h => h) (Or.inl ⟨by rfl, ?_⟩) (by assumption) ?_
        rotate_left 1
        · (intro w hSw; (try dsimp only at hSw); go_simp; all_goals with_reducible rfl)
        try simp only [Act.put, List.setIfInBounds_toArray, List.set_cons_zero, List.set_cons_succ]
        refine wpAnyH_take (i := 13) (v := ?_) rfl (by kernel_rfl) (by kernel_rfl) (by kernel_rfl) (fun _ _ _ h => h) (Or.inl ⟨by rfl, ?_⟩) (by assumption) ?_
        rotate_left 1
        · (intro w hSw; (try dsimp only at hSw); go_simp; all_goals with_reducible rfl)
        try simp only [Act.put, List.setIfInBounds_toArray, List.set_cons_zero, List.set_cons_succ]
        refine wpAnyH_done (by kernel_rfl) ?_ _
        show wpList _ _ _ _ _ _
        clear hHeld hHeld2 S0
        have hq0 : (((Y.setCell ⟨w.heap.size + 1 + 1, 0, none⟩ (.int .i64 db)).setCell ⟨w.heap.size + 1 + 1, 1, none⟩ (.int .i64 (ct : Int))).setCell ⟨w.heap.size + 1 + 1, 2, none⟩ (.bool (!mn))).cell? ⟨w.heap.size + 1 + 1, 0, none⟩ = some (.int .i64 db) := (((rQ.set 0 (.int .i64 db)).set 1 (.int .i64 (ct : Int))).set 2 (.bool (!mn))).cell (i := 0) (by omega)
        have hq1 : (((Y.setCell ⟨w.heap.size + 1 + 1, 0, none⟩ (.int .i64 db)).setCell ⟨w.heap.size + 1 + 1, 1, none⟩ (.int .i64 (ct : Int))).setCell ⟨w.heap.size + 1 + 1, 2, none⟩ (.bool (!mn))).cell? ⟨w.heap.size + 1 + 1, 1, none⟩ = some (.int .i64 (ct : Int)) := (((rQ.set 0 (.int .i64 db)).set 1 (.int .i64 (ct : Int))).set 2 (.bool (!mn))).cell (i := 1) (by omega)
        have hq2 : (((Y.setCell ⟨w.heap.size + 1 + 1, 0, none⟩ (.int .i64 db)).setCell ⟨w.heap.size + 1 + 1, 1, none⟩ (.int .i64 (ct : Int))).setCell ⟨w.heap.size + 1 + 1, 2, none⟩ (.bool (!mn))).cell? ⟨w.heap.size + 1 + 1, 2, none⟩ = some (.bool (!mn)) := (((rQ.set 0 (.int .i64 db)).set 1 (.int .i64 (ct : Int))).set 2 (.bool (!mn))).cell (i := 2) (by omega)
        have hZ : Below w.heap.size w (((Y.setCell ⟨w.heap.size + 1 + 1, 0, none⟩ (.int .i64 db)).setCell ⟨w.heap.size + 1 + 1, 1, none⟩ (.int .i64 (ct : Int))).setCell ⟨w.heap.size + 1 + 1, 2, none⟩ (.bool (!mn))) := ((bY.out.setCell (p := ⟨w.heap.size + 1 + 1, 0, none⟩) (by show w.heap.size ≤ w.heap.size + 1 + 1; omega) _).setCell (p := ⟨w.heap.size + 1 + 1, 1, none⟩) (by show w.heap.size ≤ w.heap.size + 1 + 1; omega) _).setCell (p := ⟨w.heap.size + 1 + 1, 2, none⟩) (by show w.heap.size ≤ w.heap.size + 1 + 1; omega) _
        go_wp2
        clear t0 t1 t2 tz0 tz1 tz2
        generalize ((Y.setCell ⟨w.heap.size + 1 + 1, 0, none⟩ (.int .i64 db)).setCell ⟨w.heap.size + 1 + 1, 1, none⟩ (.int .i64 (ct : Int))).setCell ⟨w.heap.size + 1 + 1, 2, none⟩ (.bool (!mn)) = V at *
        refine bodyPost_ret (v := .tuple #[.agg #[.int .i64 db, .int .i64 (ct : Int), .bool (!mn)], .bool true]) (by simp [results, Tryd.results66, go_sem, hq0, hq1, hq2]) rfl ?_
        exact ⟨rfl, hZ.drew⟩
      · have hra : rv = #[.agg #[.int .i64 0, .int .i64 0, .bool false], .bool false] := by rw [← hrv.out, if_neg hpa]
        subst hra
        have n0 : (da != p) = true := by simpa using hpa
        have hq0 : (((Y.setCell ⟨w.heap.size + 1 + 1, 0, none⟩ (.int .i64 0)).setCell ⟨w.heap.size + 1 + 1, 1, none⟩ (.int .i64 0)).setCell ⟨w.heap.size + 1 + 1, 2, none⟩ (.bool false)).cell? ⟨w.heap.size + 1 + 1, 0, none⟩ = some (.int .i64 0) := (((rQ.set 0 (.int .i64 0)).set 1 (.int .i64 0)).set 2 (.bool false)).cell (i := 0) (by omega)
        have hq1 : (((Y.setCell ⟨w.heap.size + 1 + 1, 0, none⟩ (.int .i64 0)).setCell ⟨w.heap.size + 1 + 1, 1, none⟩ (.int .i64 0)).setCell ⟨w.heap.size + 1 + 1, 2, none⟩ (.bool false)).cell? ⟨w.heap.size + 1 + 1, 1, none⟩ = some (.int .i64 0) := (((rQ.set 0 (.int .i64 0)).set 1 (.int .i64 0)).set 2 (.bool false)).cell (i := 1) (by omega)
        have hq2 : (((Y.setCell ⟨w.heap.size + 1 + 1, 0, none⟩ (.int .i64 0)).setCell ⟨w.heap.size + 1 + 1, 1, none⟩ (.int .i64 0)).setCell ⟨w.heap.size + 1 + 1, 2, none⟩ (.bool false)).cell? ⟨w.heap.size + 1 + 1, 2, none⟩ = some (.bool false) := (((rQ.set 0 (.int .i64 0)).set 1 (.int .i64 0)).set 2 (.bool false)).cell (i := 2) (by omega)
        have hZ : Below w.heap.size w (((Y.setCell ⟨w.heap.size + 1 + 1, 0, none⟩ (.int .i64 0)).setCell ⟨w.heap.size + 1 + 1, 1, none⟩ (.int .i64 0)).setCell ⟨w.heap.size + 1 + 1, 2, none⟩ (.bool false)) := ((bY.out.setCell (p := ⟨w.heap.size + 1 + 1, 0, none⟩) (by show w.heap.size ≤ w.heap.size + 1 + 1; omega) _).setCell (p := ⟨w.heap.size + 1 + 1, 1, none⟩) (by show w.heap.size ≤ w.heap.size + 1 + 1; omega) _).setCell (p := ⟨w.heap.size + 1 + 1, 2, none⟩) (by show w.heap.size ≤ w.heap.size + 1 + 1; omega) _
        go_wp2
        clear t0 t1 t2 tz0 tz1 tz2
        generalize ((Y.setCell ⟨w.heap.size + 1 + 1, 0, none⟩ (.int .i64 0)).setCell ⟨w.heap.size + 1 + 1, 1, none⟩ (.int .i64 0)).setCell ⟨w.heap.size + 1 + 1, 2, none⟩ (.bool false) = V at *
        refine bodyPost_ret (v := .tuple #[.agg #[.int .i64 0, .int .i64 0, .bool false], .bool false]) (by simp [results, Tryd.results66, go_sem, hq0, hq1, hq2]) rfl ?_
        exact ⟨rfl, hZ⟩
end Go.Proofs.YtmkjmpkicmadcaaDoor
