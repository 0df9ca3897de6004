/- Contracts: slices.Max of numbers, Gaps of package plate; Heights and Gaps of the specification. Written by genGb.py. -/
import Derived.Test.YtidcedilfhmllaaDoorZJga
import Derived.Test.YtidcedilfhmllaaDoorZ13
import Derived.Test.YtidcedilfhmllaaDoorZJu
import Derived.Test.YtidcedilfhmllaaDoorZ12
set_option linter.unusedSimpArgs false
set_option linter.unusedVariables false
namespace Pl
/-- the greatest of the first numbers -/
def mxT (L : List Int) : Nat → Int
  | 0 => L.getD 0 0
  | k + 1 => max (mxT L k) (L.getD k 0)
def okH (s : Nat) (l : List Int) : Bool := decide ((l.length : Int) = (s : Int) * (s : Int)) && !l.any hfar
theorem mxT_bd {L : List Int} {b : Int} (hb : 0 ≤ b) (h : ∀ z ∈ L, -b ≤ z ∧ z ≤ b) : ∀ k, -b ≤ mxT L k ∧ mxT L k ≤ b := by
  have el : ∀ k, -b ≤ L.getD k 0 ∧ L.getD k 0 ≤ b := fun k => by
    by_cases hk : k < L.length
    · rw [List.getD, List.getElem?_eq_getElem hk]
      exact h _ (List.getElem_mem hk)
    · rw [List.getD, List.getElem?_eq_none (by omega)]
      show -b ≤ 0 ∧ (0 : Int) ≤ b
      omega
  intro k
  induction k with
  | zero => exact el 0
  | succ k ih =>
    have := el k
    unfold mxT
    omega
theorem sms_len (s t : Nat) (l1 l2 : List Int) : (sms s t l1 l2).length = s * s := by unfold sms mvs; simp
theorem sms_at {s t x : Nat} (l1 l2 : List Int) (h : x < s * s) : (sms s t l1 l2).getD x 0 = l1.getD x 0 + l2.getD (tk s t x) 0 := by
  unfold sms mvs smF
  rw [List.getD, List.getElem?_map, List.getElem?_map, List.getElem?_range h]
  rfl
theorem okH_spec {s : Nat} {l : List Int} (h : okH s l = true) : l.length = s * s ∧ ∀ z ∈ l, -1099511627776 ≤ z ∧ z ≤ 1099511627776 := by
  unfold okH at h
  rw [Bool.and_eq_true, decide_eq_true_eq, Bool.not_eq_true', ← Bool.not_eq_true, List.any_eq_true] at h
  refine ⟨by have := h.1; rw [← Int.natCast_mul] at this; omega, fun z hz => ?_⟩
  have h2 : ¬ hfar z = true := fun c => h.2 ⟨z, hz, c⟩
  unfold hfar at h2
  rw [decide_eq_true_eq] at h2
  omega
theorem sms_bd {s t : Nat} (hs : s ≤ 6) (ht : t < 8) {l1 l2 : List Int} (h1 : okH s l1 = true) (h2 : okH s l2 = true) : ∀ z ∈ sms s t l1 l2, -2199023255552 ≤ z ∧ z ≤ 2199023255552 := fun z hz => by
  obtain ⟨n1, b1⟩ := okH_spec h1
  obtain ⟨n2, b2⟩ := okH_spec h2
  obtain ⟨x, hx, he⟩ := List.getElem_of_mem hz
  rw [sms_len] at hx
  have h := sms_at (t := t) l1 l2 hx
  rw [List.getD, List.getElem?_eq_getElem (by rw [sms_len]; exact hx)] at h
  have hk := tk_lt hs hx ht
  have e1 := b1 (l1.getD x 0) (by rw [List.getD, List.getElem?_eq_getElem (by omega)]; exact List.getElem_mem _)
  have e2 := b2 (l2.getD (tk s t x) 0) (by rw [List.getD, List.getElem?_eq_getElem (by omega)]; exact List.getElem_mem _)
  have h' : z = l1.getD x 0 + l2.getD (tk s t x) 0 := by rw [← he, ← h]; rfl
  omega
/-- Gaps -/
def gpF (s t : Nat) (l1 l2 : List Int) (x : Nat) : Int := mxT (sms s t l1 l2) (s * s) - (sms s t l1 l2).getD x 0
end Pl
namespace Go.Proofs.YtidcedilfhmllaaDoor
open Go.RowKit
set_option linter.unusedVariables false
set_option linter.unusedSimpArgs false

set_option maxRecDepth 100000 in
set_option maxHeartbeats 2000000 in
theorem max_any (a : Option Addr) (N c : Nat) (l : List Int) (hl : Hid (l.length = N)) (h1 : 1 ≤ N) (hN : N ≤ 1000) (R : Int) (hR : Hid (Pl.mxT l N = R)) (w : World) (hx : Hid (NsAt w a l)) :
    Calls Tryd.prog 46 #[.slice a N c] w fun e w' => e = .returned (.int .i64 R) ∧ w' = w := by
  obtain ⟨x, rfl, c0⟩ := hx.out 0 (by have := hl.out; omega)
  have i1 : ¬ (N : Int) < 1 := by omega
  have i0 : (0 : Int) < (N : Int) := by omega
  obtain ⟨z0, hz0⟩ : ∃ z0, l.getD 0 0 = z0 := ⟨_, rfl⟩
  rw [hz0, show x.add 0 = x by unfold Addr.add; simp] at c0
  have hm1 : Pl.mxT l 1 = z0 := by
    show max (l.getD 0 0) (l.getD 0 0) = z0
    rw [hz0]
    omega
  replace hm1 := Lib.hid hm1
  clear hz0
  go_enter Tryd.func46, Tryd.ntmps46
  go_wp2
  go_loopw [4, 3] (fun iv mv wr => ∃ (k : Nat), 1 ≤ k ∧ k ≤ N ∧ iv = .int .i64 (k : Int) ∧ mv = .int .i64 (Pl.mxT l k) ∧ wr = w) (fun iv _ _ => N - (RowKit.intOf iv).toNat)
  case atStart => exact ⟨1, Nat.le_refl _, h1, rfl, by rw [hm1.out], rfl⟩
  case round =>
    obtain ⟨k, hk1, hk, rfl, rfl, rfl⟩ := hrel
    by_cases hlt : k < N
    · obtain ⟨x2, e2, c1⟩ := hx.out k (by have := hl.out; omega)
      obtain rfl := Option.some.inj e2
      have hst : Pl.mxT l (k + 1) = max (Pl.mxT l k) (l.getD k 0) := rfl
      obtain ⟨z, hz⟩ : ∃ z, l.getD k 0 = z := ⟨_, rfl⟩
      rw [hz] at c1 hst
      obtain ⟨mm, hmm⟩ : ∃ mm, Pl.mxT l k = mm := ⟨_, rfl⟩
      rw [hmm] at hst ⊢
      replace hst := Lib.hid hst
      have i2 : (k : Int) < (N : Int) := by omega
      have i3 : (0 : Int) ≤ (k : Int) := by omega
      clear hz hmm c0 hm1
      go_wp2
      go_roundw
      case rel => exact ⟨k + 1, by omega, by omega, by go_num, by rw [hst.out], by first | rfl | trivial⟩
      case measure => first | (simp [RowKit.intOf]; done) | (simp [RowKit.intOf]; omega) | omega
    · obtain rfl : k = N := by omega
      have i2 : ¬ (k : Int) < (k : Int) := by omega
      rw [hR.out]
      clear c0 hm1 hR
      go_wp2
      go_ret
      exact ⟨rfl, rfl⟩

set_option maxRecDepth 100000 in
set_option maxHeartbeats 2000000 in
theorem rHeights_any (s : Nat) (h6 : s ≤ 6) (a : Option Addr) (n c : Nat) (l : List Int) (hl : Hid (l.length = n)) (hn : n ≤ 1000) (R : Bool) (hR : Hid (Pl.okH s l = R)) (w : World) (hx : Hid (NsAt w a l)) :
    Calls Tryd.prog 12 #[.int .i64 (s : Int), .slice a n c] w fun e w' => e = .returned (.bool R) ∧ w' = w := by
  have hs3 : s * s ≤ 36 := Nat.mul_le_mul h6 h6
  have hs2 : ((s * s : Nat) : Int) = (s : Int) * (s : Int) := Int.natCast_mul _ _
  have hs4 : (s : Int) * (s : Int) ≤ 36 := by omega
  have hs5 : (0 : Int) ≤ (s : Int) * (s : Int) := by omega
  clear hs2 hs3
  go_enter Tryd.func12, Tryd.ntmps12
  go_wp2
  go_loopw [5] (fun iv wr => ∃ (k : Nat), k ≤ n ∧ iv = .int .i64 (k : Int) ∧ wr = w ∧ Hid ((l.take k).any Pl.hfar = false)) (fun iv _ => n - (RowKit.intOf iv).toNat)
  case atStart => exact ⟨0, Nat.zero_le _, rfl, rfl, Lib.hid (by simp)⟩
  case round =>
    obtain ⟨k, hk, rfl, rfl, hno⟩ := hrel
    by_cases hlt : k < n
    · have hkl : k < l.length := by have := hl.out; omega
      obtain ⟨x, rfl, c1⟩ := hx.out k hkl
      have hst : (l.take (k + 1)).any Pl.hfar = ((l.take k).any Pl.hfar || Pl.hfar (l.getD k 0)) := by
        rw [List.take_succ_eq_append_getElem hkl, List.any_append, List.getD, List.getElem?_eq_getElem hkl]
        simp only [List.any_cons, List.any_nil, Bool.or_false]
        rfl
      have hmem : l.getD k 0 ∈ l := by rw [List.getD, List.getElem?_eq_getElem hkl]; exact List.getElem_mem hkl
      obtain ⟨z, hz⟩ : ∃ z, l.getD k 0 = z := ⟨_, rfl⟩
      rw [hz] at c1 hst hmem
      rw [hno.out] at hst
      replace hst := Lib.hid hst
      have i2 : (k : Int) < (n : Int) := by omega
      have i3 : (0 : Int) ≤ (k : Int) := by omega
      have HI := Lib.hid (rIn_any z (-1099511627776) 1099511627776)
      clear hz hkl
      by_cases hz : -1099511627776 ≤ z ∧ z ≤ 1099511627776
      · have hI : decide (-1099511627776 ≤ z ∧ z ≤ 1099511627776) = true := decide_eq_true hz
        rw [hI] at HI
        have hst2 : Hid ((l.take (k + 1)).any Pl.hfar = false) := Lib.hid (by rw [hst.out, Bool.false_or]; exact decide_eq_false (by omega))
        clear hst hmem hz hI
        go_wp2_with fail
        refine (HI.out _).mono ?_
        rintro e w1 ⟨rfl, hw1⟩
        subst hw1
        go_wp2
        go_roundw
        case rel => exact ⟨k + 1, by omega, by go_num, by first | rfl | trivial, hst2⟩
        case measure => first | (simp [RowKit.intOf]; done) | (simp [RowKit.intOf]; omega) | omega
      · have hI : decide (-1099511627776 ≤ z ∧ z ≤ 1099511627776) = false := decide_eq_false hz
        rw [hI] at HI
        have hR2 : R = false := by
          rw [← hR.out]
          unfold Pl.okH
          have : l.any Pl.hfar = true := List.any_eq_true.2 ⟨z, hmem, decide_eq_true (by omega)⟩
          rw [this]
          simp
        subst hR2
        clear hst hmem hz hI hR
        go_wp2_with fail
        refine (HI.out _).mono ?_
        rintro e w1 ⟨rfl, hw1⟩
        subst hw1
        go_wp2
        go_ret
        exact ⟨rfl, rfl⟩
    · obtain rfl : k = n := by omega
      have i2 : ¬ (k : Int) < (k : Int) := by omega
      have hall : l.any Pl.hfar = false := by have h := hno.out; rw [List.take_of_length_le (by have := hl.out; omega)] at h; exact h
      have hR2 : R = decide ((k : Int) = (s : Int) * (s : Int)) := by
        rw [← hR.out]
        unfold Pl.okH
        rw [hall, hl.out]
        simp
      by_cases he : (k : Int) = (s : Int) * (s : Int)
      · rw [decide_eq_true he] at hR2
        have hb : ((k : Int) == (s : Int) * (s : Int)) = true := by simpa using he
        subst hR2
        clear hall hno hR he
        go_wp2
        go_ret
        exact ⟨rfl, rfl⟩
      · rw [decide_eq_false he] at hR2
        have hb : ((k : Int) == (s : Int) * (s : Int)) = false := by simpa using he
        subst hR2
        clear hall hno hR he
        go_wp2
        go_ret
        exact ⟨rfl, rfl⟩

theorem rowF_of_owns {W : World} {B : Nat} {v : Value} {l : List Int} {n : Nat} (hn : l.length = n) (h0 : 0 < n) (h : W.ownsRow B 3 1 v n (l.map fun z => Value.int .i64 z)) : ∃ g cap, v = .slice (some ⟨g, 0, none⟩) n cap ∧ RowF W g n (fun k => l.getD k 0) ∧ B ≤ g := by
  obtain ⟨_, h2⟩ := h
  rcases h2 with ⟨hv, h3⟩ | ⟨g, cap, cur, hv, hb, hg, hle, hcm, hs, ht⟩
  · omega
  · refine ⟨g, cap, hv, fun k hk => ?_, hb⟩
    have e : cur[k]? = some (.int .i64 (l.getD k 0)) := by
      have h1 : (List.take (n * 1) cur.toList)[k]? = (l.map fun z => Value.int .i64 z)[k]? := by rw [ht]
      rw [List.getElem?_take_of_lt (by omega), Array.getElem?_toList, List.getElem?_map, List.getElem?_eq_getElem (by omega)] at h1
      rw [h1, List.getD, List.getElem?_eq_getElem (by omega)]
      rfl
    exact ⟨by simp [World.cell?, hg, e], by simp [World.frozen?, hg]⟩

end Go.Proofs.YtidcedilfhmllaaDoor
