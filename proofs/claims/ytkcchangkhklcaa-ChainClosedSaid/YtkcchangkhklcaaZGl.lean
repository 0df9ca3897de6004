/- Contracts of package chain: Greatest, Least; slices.Contains. -/
import Derived.Test.YtkcchangkhklcaaZ06
import Derived.Test.YtkcchangkhklcaaZYs
import Derived.Test.YtkcchangkhklcaaZUk
set_option linter.unusedSimpArgs false
set_option linter.unusedVariables false
namespace Go.Proofs.Ytkcchangkhklcaa
open Go.RowKit

set_option maxRecDepth 100000 in
set_option maxHeartbeats 2000000 in
theorem indexI_any (b : Option Addr) (q cap : Nat) (l : List Int) (z : Int) (hq : Hid (l.length = q)) (hq9 : q ≤ 1000) (R : Bool) (hR : Hid (l.any (fun y => y == z) = R)) (w : World) (hl : Hid (IntsAt w b l)) :
    Calls Try.prog 94 #[.slice b q cap, .int .i64 z] w fun e w' => (∃ r : Int, e = .returned (.int .i64 r) ∧ decide (0 ≤ r) = R) ∧ w' = w := by
  go_enter Try.func94, Try.ntmps94
  go_wp2
  go_loopw [8] (fun i wr => ∃ k : Nat, k ≤ q ∧ i = .int .i64 k ∧ w = wr ∧ Hid (l.any (fun y => y == z) = (l.drop k).any (fun y => y == z))) (fun i _ => q - (RowKit.intOf i).toNat)
  case atStart => exact ⟨0, Nat.zero_le _, rfl, rfl, Lib.hid rfl⟩
  case round =>
    obtain ⟨k, hk, rfl, rfl, hall⟩ := hrel
    by_cases hlt : k < q
    · have hkl : k < l.length := by have := hq.out; omega
      obtain ⟨x, rfl, hx⟩ := hl.out k hkl
      have hi5 : (k : Int) < (q : Int) := by omega
      have hi6 : (0 : Int) ≤ (k : Int) := by omega
      have hst := Ch.any_at (p := fun y => y == z) hkl
      obtain ⟨v, hv⟩ : ∃ v, l.getD k 0 = v := ⟨_, rfl⟩
      rw [hv] at hx hst
      by_cases e : v = z
      · obtain rfl : true = R := by
          rw [← hR.out, hall.out, hst, e]
          simp
        have g : (z == v) = true := by rw [beq_iff_eq]; exact e.symm
        clear hall hst hv hR
        subst e
        go_wp2
        go_ret
        exact ⟨⟨_, rfl, by rw [decide_eq_true_eq]; omega⟩, rfl⟩
      · have g : (z == v) = false := by rw [beq_eq_false_iff_ne]; exact fun h => e h.symm
        have hal2 := Lib.hid (show l.any (fun y => y == z) = (l.drop (k + 1)).any (fun y => y == z) by
          rw [hall.out, hst]
          have : (v == z) = false := by rw [beq_eq_false_iff_ne]; exact e
          rw [this, Bool.false_or])
        clear hall hst hv
        go_wp2
        go_roundw
        case rel => exact ⟨k + 1, by omega, by go_num, by first | rfl | trivial, hal2⟩
        case measure => show q - ((k : Int) + 1).toNat < q - (k : Int).toNat; omega
    · obtain rfl : k = q := by omega
      have hi5 : ¬ (k : Int) < (k : Int) := by omega
      obtain rfl : false = R := by
        rw [← hR.out, hall.out, List.drop_eq_nil_of_le (by have := hq.out; omega)]
        rfl
      clear hall hR
      go_wp2
      go_ret
      exact ⟨⟨_, rfl, by decide⟩, rfl⟩
theorem contains_any (b : Option Addr) (q cap : Nat) (l : List Int) (z : Int) (hq : Hid (l.length = q)) (hq9 : q ≤ 1000) (R : Bool) (hR : Hid (l.any (fun y => y == z) = R)) (w : World) (hl : Hid (IntsAt w b l)) :
    Calls Try.prog 82 #[.slice b q cap, .int .i64 z] w fun e w' => e = .returned (.bool R) ∧ w' = w := by
  have HI := Lib.hid fun (W : World) (h : IntsAt W b l) => indexI_any b q cap l z hq hq9 R hR W (Lib.hid h)
  go_enter Try.func82, Try.ntmps82
  go_wp2_with fail
  refine (HI.out _ hl.out).mono ?_
  rintro e w1 ⟨⟨r, rfl, hr⟩, rfl⟩
  clear HI hR
  subst hr
  go_wp2
  go_ret
  exact ⟨rfl, rfl⟩
theorem where_err (v : Value) (z e1 : Int) (he : e1 ≠ 0) (w : World) : Calls Try.prog 59 #[v, .int .i64 z, .int .i64 e1] w fun e w' => e = .returned (.tuple #[.slice none 0 0, .int .i64 e1]) ∧ w' = w := by
  have g : (e1 != 0) = true := by rw [bne_iff_ne]; exact he
  go_enter Try.func59, Try.ntmps59
  go_wp2
  go_ret2
  exact ⟨rfl, rfl⟩
theorem where_ok (b : Option Addr) (q cap : Nat) (l : List Int) (z : Int) (hq : Hid (l.length = q)) (hq9 : q ≤ 1000) (R : Bool) (hR : Hid (l.any (fun y => y == z) = R)) (w : World) (hl : Hid (IntsAt w b l)) :
    Calls Try.prog 59 #[.slice b q cap, .int .i64 z, .int .i64 0] w fun e w' => e = .returned (if R then .tuple #[.slice none 0 0, .int .i64 5] else .tuple #[.slice b q cap, .int .i64 0]) ∧ w' = w := by
  have HC := Lib.hid fun (W : World) (h : IntsAt W b l) => contains_any b q cap l z hq hq9 R hR W (Lib.hid h)
  go_enter Try.func59, Try.ntmps59
  go_wp2_with fail
  refine (HC.out _ hl.out).mono ?_
  rintro e w1 ⟨rfl, rfl⟩
  clear HC hR
  cases R
  · go_wp2
    go_ret2
    exact ⟨rfl, rfl⟩
  · go_wp2
    go_ret2
    exact ⟨rfl, rfl⟩

theorem greatW_ok {n : Int} {L : List Ch.Lk} {k : Nat} (h : Ch.greatE n L k = 0) : Ch.greatW n L k = if (Ch.greatest n L k).any (fun y => y == 1152921504606846976) then ([], 5) else (Ch.greatest n L k, 0) := by
  unfold Ch.greatW Ch.whereB
  rw [h, if_neg (by simp)]
  rfl
theorem leastW_ok {n : Int} {L : List Ch.Lk} {k : Nat} (h : Ch.opn n L [] k = 0) : Ch.leastW n L k = if (Ch.least n L k).any (fun y => y == -1152921504606846976) then ([], 5) else (Ch.least n L k, 0) := by
  unfold Ch.leastW Ch.whereB
  rw [h, if_neg (by simp)]
  rfl

set_option maxRecDepth 100000 in
set_option maxHeartbeats 2000000 in
theorem greatestW_any (n : Int) (n2 : n ≤ 1000) (a : Option Addr) (cap : Nat) (L : List Ch.Lk) (k : Nat) (hE : (Ch.check n (Ch.turned L)).1 = 0 → Ch.enough n.toNat (Ch.turned L) [] k = true) (hl : Ch.greatE n L k = 0 → (Ch.greatest n L k).length = n.toNat) (w : World) (hL : LksAt w a L) :
    Calls Try.prog 26 #[sysV n a L.length cap] w (LsPost w n.toNat (Ch.greatW n L k).2 (Ch.greatW n L k).1) := by
  have hB0 : Below w.heap.size w (w.alloc (Obj.cells #[.int .i64 n, .slice a L.length cap] 24)) := below_alloc (Below.refl _ _) _
  have HG := Lib.hid (greatest_any n a cap L k hE _ (hL.below hB0))
  have hok := Lib.hid fun h => greatW_ok (n := n) (L := L) (k := k) h
  have hbad : Hid (Ch.greatE n L k ≠ 0 → Ch.greatW n L k = ([], Ch.greatE n L k)) := Lib.hid fun h => by unfold Ch.greatW Ch.whereB; rw [if_pos h]
  obtain ⟨⟨S, er⟩, hW⟩ : ∃ r, Ch.greatW n L k = r := ⟨_, rfl⟩
  rw [hW] at hok hbad ⊢
  obtain ⟨ec, hec⟩ : ∃ ec, Ch.greatE n L k = ec := ⟨_, rfl⟩
  obtain ⟨G, hG⟩ : ∃ G, Ch.greatest n L k = G := ⟨_, rfl⟩
  rw [hec, hG] at HG hok hl
  rw [hec] at hbad
  replace hl := Lib.hid hl
  unfold sysV at *
  clear hec hG hW
  go_enter Try.func26, Try.ntmps26
  go_wp2_with fail
  refine HG.out.mono ?_
  rintro e w1 ⟨hb, h⟩
  have hB := hB0.trans (hb.mono hB0.size)
  clear hb hB0 HG
  rcases h with ⟨hne, rfl⟩ | ⟨rfl, sb, f, hsb, rfl, hr, hf⟩
  · obtain ⟨rfl, rfl⟩ := Prod.mk.inj (hbad.out hne)
    have HW := Lib.hid fun (W : World) => where_err (.slice none 0 0) 1152921504606846976 er hne W
    clear hok hbad
    go_wp2_with fail
    refine (HW.out _).mono ?_
    rintro e w2 ⟨rfl, rfl⟩
    clear HW
    go_wp2
    go_ret2
    exact ⟨hB, .inl ⟨hne, rfl⟩⟩
  · have hok2 := hok.out rfl
    have hsb2 : w.heap.size ≤ sb := by simp at hsb; omega
    obtain ⟨R, hR⟩ : ∃ R, (G.any fun y => y == 1152921504606846976) = R := ⟨_, rfl⟩
    rw [hR] at hok2
    have HW := Lib.hid (where_ok (some ⟨sb, 0, none⟩) n.toNat n.toNat G 1152921504606846976 (Lib.hid (hl.out rfl)) (by omega) R (Lib.hid hR) w1 (Lib.hid (ints_of_row hr hf (hl.out rfl))))
    replace hr := Lib.hid hr
    clear hok hbad hR
    go_wp2_with fail
    refine HW.out.mono ?_
    rintro e w2 ⟨he, rfl⟩
    clear HW
    cases R
    · obtain ⟨rfl, rfl⟩ := Prod.mk.inj hok2
      simp only [Bool.false_eq_true, if_false] at he
      subst he
      go_wp2
      go_ret2
      exact ⟨hB, .inr ⟨rfl, sb, f, hsb2, rfl, hr.out, hf⟩⟩
    · obtain ⟨rfl, rfl⟩ := Prod.mk.inj hok2
      simp only [if_true] at he
      subst he
      go_wp2
      go_ret2
      exact ⟨hB, .inl ⟨by decide, rfl⟩⟩

set_option maxRecDepth 100000 in
set_option maxHeartbeats 2000000 in
theorem leastW_any (n : Int) (n2 : n ≤ 1000) (a : Option Addr) (cap : Nat) (L : List Ch.Lk) (k : Nat) (hE : (Ch.check n L).1 = 0 → Ch.enough n.toNat L [] k = true) (hl : Ch.opn n L [] k = 0 → (Ch.least n L k).length = n.toNat) (w : World) (hL : LksAt w a L) :
    Calls Try.prog 27 #[sysV n a L.length cap] w (LsPost w n.toNat (Ch.leastW n L k).2 (Ch.leastW n L k).1) := by
  have hB0 : Below w.heap.size w (w.alloc (Obj.cells #[.int .i64 n, .slice a L.length cap] 24)) := below_alloc (Below.refl _ _) _
  have HG := Lib.hid (least_any n a cap L k hE _ (hL.below hB0))
  have hok := Lib.hid fun h => leastW_ok (n := n) (L := L) (k := k) h
  have hbad : Hid (Ch.opn n L [] k ≠ 0 → Ch.leastW n L k = ([], Ch.opn n L [] k)) := Lib.hid fun h => by unfold Ch.leastW Ch.whereB; rw [if_pos h]
  obtain ⟨⟨S, er⟩, hW⟩ : ∃ r, Ch.leastW n L k = r := ⟨_, rfl⟩
  rw [hW] at hok hbad ⊢
  obtain ⟨ec, hec⟩ : ∃ ec, Ch.opn n L [] k = ec := ⟨_, rfl⟩
  obtain ⟨G, hG⟩ : ∃ G, Ch.least n L k = G := ⟨_, rfl⟩
  rw [hec, hG] at HG hok hl
  rw [hec] at hbad
  replace hl := Lib.hid hl
  unfold sysV at *
  clear hec hG hW
  go_enter Try.func27, Try.ntmps27
  go_wp2_with fail
  refine HG.out.mono ?_
  rintro e w1 ⟨hb, h⟩
  have hB := hB0.trans (hb.mono hB0.size)
  clear hb hB0 HG
  rcases h with ⟨hne, rfl⟩ | ⟨rfl, sb, f, hsb, rfl, hr, hf⟩
  · obtain ⟨rfl, rfl⟩ := Prod.mk.inj (hbad.out hne)
    have HW := Lib.hid fun (W : World) => where_err (.slice none 0 0) (-1152921504606846976) er hne W
    clear hok hbad
    go_wp2_with fail
    refine (HW.out _).mono ?_
    rintro e w2 ⟨rfl, rfl⟩
    clear HW
    go_wp2
    go_ret2
    exact ⟨hB, .inl ⟨hne, rfl⟩⟩
  · have hok2 := hok.out rfl
    have hsb2 : w.heap.size ≤ sb := by simp at hsb; omega
    obtain ⟨R, hR⟩ : ∃ R, (G.any fun y => y == -1152921504606846976) = R := ⟨_, rfl⟩
    rw [hR] at hok2
    have HW := Lib.hid (where_ok (some ⟨sb, 0, none⟩) n.toNat n.toNat G (-1152921504606846976) (Lib.hid (hl.out rfl)) (by omega) R (Lib.hid hR) w1 (Lib.hid (ints_of_row hr hf (hl.out rfl))))
    replace hr := Lib.hid hr
    clear hok hbad hR
    go_wp2_with fail
    refine HW.out.mono ?_
    rintro e w2 ⟨he, rfl⟩
    clear HW
    cases R
    · obtain ⟨rfl, rfl⟩ := Prod.mk.inj hok2
      simp only [Bool.false_eq_true, if_false] at he
      subst he
      go_wp2
      go_ret2
      exact ⟨hB, .inr ⟨rfl, sb, f, hsb2, rfl, hr.out, hf⟩⟩
    · obtain ⟨rfl, rfl⟩ := Prod.mk.inj hok2
      simp only [if_true] at he
      subst he
      go_wp2
      go_ret2
      exact ⟨hB, .inl ⟨by decide, rfl⟩⟩
end Go.Proofs.Ytkcchangkhklcaa
