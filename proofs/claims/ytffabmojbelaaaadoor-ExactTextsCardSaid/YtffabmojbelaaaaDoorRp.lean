/- The plain mathematics of the texts of rational numbers. -/
import Derived.Test.YtffabmojbelaaaaDoorRt
import Derived.Lib.AtoiAll
import Derived.Lib.ItoaNum
import Derived.Lib.ItoaLen
import Derived.Lib.ItoaMem
import Derived.Lib.IndexMore
namespace Rt
open Go.Lib

def isDig (c : UInt8) : Prop := 48 ≤ c.toNat ∧ c.toNat ≤ 57

def dstep (acc : Nat) (c : UInt8) : Nat := acc * 10 + (c.toNat - 48)
def dval (acc : Nat) (l : List UInt8) : Nat := l.foldl dstep acc
theorem dval_nil (acc : Nat) : dval acc [] = acc := rfl
theorem dval_cons (acc : Nat) (c : UInt8) (r : List UInt8) : dval acc (c :: r) = dval (dstep acc c) r := by unfold dval; rw [List.foldl_cons]
theorem dval_snoc (l : List UInt8) (acc : Nat) (c : UInt8) : dval acc (l ++ [c]) = dstep (dval acc l) c := by
  unfold dval; rw [List.foldl_append, List.foldl_cons, List.foldl_nil]

theorem dval_le : ∀ (l : List UInt8) (acc : Nat), acc ≤ dval acc l
  | [], acc => by rw [dval_nil]; exact Nat.le_refl _
  | x :: xs, acc => by have := dval_le xs (dstep acc x); rw [dval_cons]; unfold dstep at this ⊢; omega

theorem dig_toNat {k : Nat} (h : k < 10) : (UInt8.ofNat (48 + k)).toNat = 48 + k := by
  rw [UInt8.toNat_ofNat']; omega

theorem decDigits_dig (u : Nat) : ∀ c ∈ decDigits u, isDig c := by
  induction u using Nat.strongRecOn with
  | _ u ih =>
    intro c hc
    rw [decDigits] at hc
    split at hc
    · rw [List.mem_singleton] at hc; subst hc; unfold isDig; rw [dig_toNat (by assumption)]; omega
    · rcases List.mem_append.1 hc with h | h
      · exact ih _ (by omega) c h
      · rw [List.mem_singleton] at h; subst h; unfold isDig; rw [dig_toNat (by omega)]; omega

theorem decDigits_val (u : Nat) : dval 0 (decDigits u) = u := by
  induction u using Nat.strongRecOn with
  | _ u ih =>
    rw [decDigits]
    split
    · rename_i h; rw [dval_cons, dval_nil, dstep, dig_toNat h]; omega
    · rw [dval_snoc, ih _ (by omega), dstep, dig_toNat (by omega)]; omega

theorem decDigits_len (u : Nat) : (decDigits u).length = nDigits u := by rw [decDigits_eq]; simp
theorem decDigits_ne (u : Nat) : decDigits u ≠ [] := by
  intro h; have := decDigits_len u; rw [h] at this; have := nDigits_pos u; simp at *; omega

theorem nDigits_le10 {u : Nat} (h : u < 10000000000) : nDigits u ≤ 10 := by
  rcases Nat.lt_or_ge 10 (nDigits u) with h1 | h1
  · exfalso
    have h2 : 10 ^ 10 ≤ u := by
      have key : ∀ k u, k + 1 ≤ nDigits u → 1 ≤ k → 10 ^ k ≤ u := by
        intro k
        induction k with
        | zero => intro u _ h; omega
        | succ k ih =>
          intro u h _
          by_cases hu : u < 10
          · rw [nDigits_small hu] at h; omega
          · rw [nDigits_big hu] at h
            cases k with
            | zero => simp; omega
            | succ k =>
              have := ih (u / 10) (by omega) (by omega)
              rw [Nat.pow_succ]; omega
      exact key 10 u (by omega) (by omega)
    simp at h2; omega
  · exact h1

theorem parse_val : ∀ (l : List UInt8) (acc : Nat), (∀ c ∈ l, isDig c) → dval acc l < 9223372036854775808 → parseUint10 acc l = .ok (dval acc l)
  | [], acc, _, _ => by rw [parseUint10, dval_nil]
  | c :: r, acc, hd, hv => by
    have hc := hd c List.mem_cons_self
    have hle := dval_le r (dstep acc c)
    have e : dstep acc c = acc * 10 + (c.toNat - 48) := by rw [dstep]
    rw [dval_cons] at hv ⊢
    unfold isDig at hc
    rw [parseUint10, if_pos hc, if_neg (by omega), if_neg (by omega), ← e]
    exact parse_val r _ (fun x hx => hd x (List.mem_cons_of_mem _ hx)) hv

theorem parseMag_dec {u : Nat} (h : u < 9223372036854775808) : parseMag (decDigits u) = .ok u := by
  unfold parseMag
  rw [if_neg (decDigits_ne u), parse_val _ _ (decDigits_dig u) (by rw [decDigits_val]; exact h), decDigits_val]

theorem atoi_itoa {n : Int} (h0 : -9223372036854775808 < n) (h1 : n < 9223372036854775808) : atoiAll (itoa n) = .ok n := by
  unfold itoa
  split
  · rename_i hn
    simp only [atoiAll]
    rw [if_pos (by decide), parseMag_dec (by omega)]
    simp only
    rw [if_neg (by simp), if_neg (by simp; omega), if_pos (by simp)]
    congr 1; omega
  · rename_i hn
    obtain ⟨c, r, e⟩ : ∃ c r, decDigits n.toNat = c :: r := by
      cases h : decDigits n.toNat with
      | nil => exact (decDigits_ne _ h).elim
      | cons c r => exact ⟨c, r, rfl⟩
    have hc : isDig c := decDigits_dig n.toNat c (by rw [e]; exact List.mem_cons_self)
    unfold isDig at hc
    rw [e]
    simp only [atoiAll]
    rw [if_neg (by omega), ← e, parseMag_dec (by omega)]
    simp only
    rw [if_neg (by omega), if_neg (by omega), if_neg (by omega)]
    congr 1; omega

theorem itoa_no47 (n : Int) : (47 : UInt8) ∉ itoa n := by
  intro h
  have key : ∀ u, (47 : UInt8) ∉ decDigits u := by
    intro u hu
    have := decDigits_dig u _ hu
    unfold isDig at this
    simp at this
  unfold itoa at h
  split at h
  · rcases List.mem_cons.1 h with h | h
    · exact absurd h (by decide)
    · exact key _ h
  · exact key _ h

/-- the text of a number -/
def pr (n d : Int) : List UInt8 := itoa n ++ if d = 1 then [] else 47 :: itoa d

def ParseIs (l : List UInt8) (r : Num) : Prop := (∃ n d, vldP n d ∧ pr n d = l ∧ r = ⟨n, d, 0⟩) ∨ (r = ⟨0, 0, 7⟩ ∧ ∀ n d, vldP n d → pr n d ≠ l)


theorem index_none47 : ∀ a : List UInt8, (47 : UInt8) ∉ a → index a [47] = -1
  | [], _ => by simp [index]
  | x :: xs, h => by
    have hx : (47 : UInt8) ≠ x := fun e => h (by rw [e]; exact List.mem_cons_self)
    have i := index_none47 xs (fun hm => h (List.mem_cons_of_mem _ hm))
    rw [index, i]
    simp [List.isPrefixOf, hx]

theorem index_at47 : ∀ (a b : List UInt8), (47 : UInt8) ∉ a → index (a ++ 47 :: b) [47] = a.length
  | [], b, _ => by simp [index, List.isPrefixOf]
  | x :: xs, b, h => by
    have hx : (47 : UInt8) ≠ x := fun e => h (by rw [e]; exact List.mem_cons_self)
    have i := index_at47 xs b (fun hm => h (List.mem_cons_of_mem _ hm))
    rw [List.cons_append, index, i]
    have : ((xs.length : Int) == -1) = false := by rw [beq_eq_false_iff_ne]; omega
    simp [List.isPrefixOf, hx, this]

theorem cut_none47 {a : List UInt8} (h : (47 : UInt8) ∉ a) : cut a [47] = (a, [], false) := by
  unfold cut; rw [index_none47 a h, if_neg (by omega)]
theorem cut_at47 {a : List UInt8} (b : List UInt8) (h : (47 : UInt8) ∉ a) : cut (a ++ 47 :: b) [47] = (a, b, true) := by
  unfold cut; rw [index_at47 a b h, if_pos (by omega)]
  simp

theorem itoa_one : itoa 1 = [49] := by
  unfold itoa; rw [if_neg (by omega)]
  rw [decDigits, dif_pos (by decide)]; decide

/-- Parse, in its own steps -/
def parseX (l : List UInt8) : Num :=
  match atoiAll (cut l [47]).1, atoiAll (if (cut l [47]).2.2 then (cut l [47]).2.1 else [49]) with
  | .ok n, .ok d => if vld n d = true ∧ pr n d = l then ⟨n, d, 0⟩ else ⟨0, 0, 7⟩
  | _, _ => ⟨0, 0, 7⟩

theorem parseX_pr {n d : Int} (h : vldP n d) : parseX (pr n d) = ⟨n, d, 0⟩ := by
  have h' := h
  obtain ⟨h1, h2, h3, h4, _⟩ := h'
  unfold parseX
  by_cases hd : d = 1
  · have e : pr n d = itoa n := by unfold pr; rw [if_pos hd, List.append_nil]
    have c : cut (pr n d) [47] = (itoa n, [], false) := by rw [e, cut_none47 (itoa_no47 n)]
    rw [c]
    simp only [Bool.false_eq_true, if_false]
    rw [← itoa_one, atoi_itoa (by omega) (by omega), atoi_itoa (by omega) (by omega)]
    simp only
    subst hd
    rw [if_pos ⟨vld_iff.2 h, rfl⟩]
  · have e : pr n d = itoa n ++ 47 :: itoa d := by unfold pr; rw [if_neg hd]
    have c : cut (pr n d) [47] = (itoa n, itoa d, true) := by rw [e, cut_at47 _ (itoa_no47 n)]
    rw [c]
    simp only [if_true]
    rw [atoi_itoa (by omega) (by omega), atoi_itoa (by omega) (by omega)]
    simp only
    rw [if_pos ⟨vld_iff.2 h, trivial⟩]

theorem parseX_is (l : List UInt8) : ParseIs l (parseX l) := by
  by_cases h : ∃ n d, vldP n d ∧ pr n d = l
  · obtain ⟨n, d, h1, rfl⟩ := h
    exact .inl ⟨n, d, h1, rfl, parseX_pr h1⟩
  · refine .inr ⟨?_, fun n d h1 h2 => h ⟨n, d, h1, h2⟩⟩
    unfold parseX
    split
    · rename_i n d _ _
      rw [if_neg]
      rintro ⟨h1, h2⟩
      exact h ⟨n, d, vld_iff.1 h1, h2⟩
    · rfl

theorem pr_inj {n d n' d' : Int} (h : vldP n d) (h' : vldP n' d') (e : pr n d = pr n' d') : n = n' ∧ d = d' := by
  have a := parseX_pr h
  have b := parseX_pr h'
  rw [e, b] at a
  simp only [Num.mk.injEq] at a
  omega

theorem ParseIs.unique {l : List UInt8} {r s : Num} (h1 : ParseIs l r) (h2 : ParseIs l s) : r = s := by
  rcases h1 with ⟨n, d, a1, a2, a3⟩ | ⟨a1, a2⟩
  · rcases h2 with ⟨n', d', b1, b2, b3⟩ | ⟨b1, b2⟩
    · obtain ⟨rfl, rfl⟩ := pr_inj a1 b1 (a2.trans b2.symm)
      rw [a3, b3]
    · exact (b2 n d a1 a2).elim
  · rcases h2 with ⟨n', d', b1, b2, b3⟩ | ⟨b1, b2⟩
    · exact (a2 n' d' b1 b2).elim
    · rw [a1, b1]

/-! ### the specification's reading of digits -/
/-- how many of at most k bytes are digits at the head -/
def dcount : Nat → List UInt8 → Nat
  | 0, _ => 0
  | _, [] => 0
  | k + 1, c :: r => if isDig c then dcount k r + 1 else 0
where isDig (c : UInt8) : Bool := decide (48 ≤ c.toNat ∧ c.toNat ≤ 57)

/-- the number that they spell -/
def dnum (k : Nat) (l : List UInt8) : Nat := dval 0 (l.take (dcount k l))

theorem dcount_app : ∀ (k : Nat) (l r : List UInt8), (∀ c ∈ l, isDig c) → l.length ≤ k → (∀ c r', r = c :: r' → ¬ isDig c) → dcount k (l ++ r) = l.length
  | 0, [], r, _, _, _ => by simp [dcount]
  | 0, _ :: _, _, _, h, _ => by simp at h
  | k + 1, [], r, _, _, hr => by
    cases r with
    | nil => simp [dcount]
    | cons c r' =>
      have := hr c r' rfl
      unfold isDig at this
      rw [List.nil_append, dcount, if_neg (by simp [dcount.isDig]; omega)]; rfl
  | k + 1, c :: l, r, hd, hl, hr => by
    have hc := hd c List.mem_cons_self
    unfold isDig at hc
    rw [List.cons_append, dcount, if_pos (by simp [dcount.isDig]; omega), dcount_app k l r (fun x hx => hd x (List.mem_cons_of_mem _ hx)) (by simpa using hl) hr]
    rfl

theorem dnum_dec {u : Nat} (h : u < 10000000000) (r : List UInt8) (hr : ∀ c r', r = c :: r' → ¬ isDig c) :
    dcount 10 (decDigits u ++ r) = (decDigits u).length ∧ dnum 10 (decDigits u ++ r) = u := by
  have e := dcount_app 10 (decDigits u) r (decDigits_dig u) (by rw [decDigits_len]; exact nDigits_le10 h) hr
  refine ⟨e, ?_⟩
  unfold dnum
  rw [e, List.take_left, decDigits_val]

/-- Parse of the specification, in its own steps -/
def parseR (l : List UInt8) : Num :=
  let minus := l.head? = some 45
  let l1 := if minus then l.drop 1 else l
  let num := if minus then -(dnum 10 l1 : Int) else dnum 10 l1
  let l2 := l1.drop (dcount 10 l1)
  let den : Int := if l2.head? = some 47 then dnum 10 (l2.drop 1) else 1
  if vld num den = true ∧ pr num den = l then ⟨num, den, 0⟩ else ⟨0, 0, 7⟩

theorem not_dig47 : ∀ (b : List UInt8) c r', (47 : UInt8) :: b = c :: r' → ¬ isDig c := by
  intro b c r' h
  simp at h
  obtain ⟨rfl, _⟩ := h
  unfold isDig; simp

theorem parseR_pr {n d : Int} (h : vldP n d) : parseR (pr n d) = ⟨n, d, 0⟩ := by
  have h' := h
  obtain ⟨h1, h2, h3, h4, _⟩ := h'
  have hpr : pr n d = (if n < 0 then [45] else []) ++ (decDigits n.natAbs ++ if d = 1 then [] else 47 :: decDigits d.toNat) := by
    unfold pr itoa
    by_cases hn : n < 0
    · rw [if_pos hn, if_pos hn, if_neg (show ¬ d < 0 by omega)]; simp
    · rw [if_neg hn, if_neg hn, if_neg (show ¬ d < 0 by omega), show n.toNat = n.natAbs by omega]; simp
  generalize hr : (if d = 1 then [] else 47 :: decDigits d.toNat) = r at *
  have hrd : ∀ c r', r = c :: r' → ¬ isDig c := by
    intro c r' e
    rw [← hr] at e
    split at e
    · simp at e
    · exact not_dig47 _ c r' e
  have hdd := dnum_dec (u := n.natAbs) (by omega) r hrd
  have hmin : (pr n d).head? = some 45 ↔ n < 0 := by
    rw [hpr]
    by_cases hn : n < 0
    · simp [hn]
    · rw [if_neg hn, List.nil_append]
      constructor
      · intro e
        exfalso
        obtain ⟨c, t, e2⟩ : ∃ c t, decDigits n.natAbs = c :: t := by
          cases h : decDigits n.natAbs with
          | nil => exact (decDigits_ne _ h).elim
          | cons c r => exact ⟨c, r, rfl⟩
        have hc : isDig c := decDigits_dig n.natAbs c (by rw [e2]; exact List.mem_cons_self)
        rw [e2] at e
        simp at e
        subst e
        unfold isDig at hc; simp at hc
      · intro h; omega
  have hl1 : (if (pr n d).head? = some 45 then (pr n d).drop 1 else pr n d) = decDigits n.natAbs ++ r := by
    rw [hpr]
    by_cases hn : n < 0
    · simp [hn]
    · rw [← hpr, if_neg (fun e => hn (hmin.1 e)), hpr, if_neg hn]; simp
  unfold parseR
  simp only [hl1, hdd.1, hdd.2, List.drop_left]
  have hnum : (if (pr n d).head? = some 45 then -((n.natAbs : Nat) : Int) else (n.natAbs : Nat)) = n := by
    by_cases hn : n < 0
    · rw [if_pos (hmin.2 hn)]; omega
    · rw [if_neg (fun e => hn (hmin.1 e))]; omega
  have hden : (if r.head? = some 47 then (dnum 10 (r.drop 1) : Int) else 1) = d := by
    rw [← hr]
    by_cases hd : d = 1
    · simp [hd]
    · rw [if_neg hd]
      have := (dnum_dec (u := d.toNat) (by omega) [] (by simp)).2
      rw [List.append_nil] at this
      simp only [List.head?_cons, if_true, List.drop_succ_cons, List.drop_zero, this]; omega
  rw [hnum, hden, if_pos ⟨vld_iff.2 h, rfl⟩]

theorem parseR_is (l : List UInt8) : ParseIs l (parseR l) := by
  by_cases h : ∃ n d, vldP n d ∧ pr n d = l
  · obtain ⟨n, d, h1, rfl⟩ := h
    exact .inl ⟨n, d, h1, rfl, parseR_pr h1⟩
  · refine .inr ⟨?_, fun n d h1 h2 => h ⟨n, d, h1, h2⟩⟩
    unfold parseR
    simp only
    rw [if_neg]
    rintro ⟨h1, h2⟩
    exact h ⟨_, _, vld_iff.1 h1, h2⟩

end Rt
