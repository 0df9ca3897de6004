/- The contract of the specification's Parse: all ways. -/
import Derived.Test.YtffabmojbelaaaaDoorRq
namespace Go.Proofs.YtffabmojbelaaaaDoor
open Go.RowKit

theorem hd_at (s : ByteArray) (B : Nat) (g : B < s.size) : (s.data.toList.drop B).head? = some (s[B]'g) := by
  rw [List.head?_drop, Array.getElem?_toList, Array.getElem?_eq_getElem (by exact g)]
  rfl
theorem hd_no (s : ByteArray) (B : Nat) (g : ¬ B < s.size) : (s.data.toList.drop B).head? = none := by
  rw [List.head?_drop, Array.getElem?_toList, Array.getElem?_eq_none (by exact Nat.not_lt.1 g)]
theorem dnum_lt (l : List UInt8) : (Rt.dnum 10 l : Int) ≤ 20000000000 := by
  have h := dval_lt (l.take (Rt.dcount 10 l)) (dc_digs 10 l _ (Nat.le_refl _))
  have h2 := (dc_le 10 l)
  have h3 : (10 : Nat) ^ (l.take (Rt.dcount 10 l)).length ≤ 10 ^ 10 := Nat.pow_le_pow_right (by omega) (by simp; omega)
  have h4 : Rt.dnum 10 l < 10 ^ 10 := Nat.lt_of_lt_of_le h h3
  have h5 : (10 : Nat) ^ 10 = 10000000000 := by decide
  omega
theorem str_of {l : List UInt8} {s : ByteArray} (h : l = s.data.toList) : (⟨l.toArray⟩ : ByteArray) = s := by subst h; rfl
theorem str_ne {l : List UInt8} {s : ByteArray} (h : ¬ l = s.data.toList) : ((⟨l.toArray⟩ : ByteArray).toList == s.toList) = false := by
  rw [beq_eq_false_iff_ne, ByteArray.toList_mk, ByteArray.toList_eq]; exact h

theorem u8_ne {c : UInt8} (h : ¬ c = 45) : ¬ (c.toNat : Int) = 45 := fun e => h (UInt8.toNat_inj.1 (show c.toNat = 45 by omega))
theorem u8_ne2 {c : UInt8} (h : ¬ c = 47) : ¬ (c.toNat : Int) = 47 := fun e => h (UInt8.toNat_inj.1 (show c.toNat = 47 by omega))
/-- what Parse answers of the two numbers -/
def fin (num den : Int) (l : List UInt8) : Rt.Num := if Rt.vld num den = true ∧ Rt.pr num den = l then ⟨num, den, 0⟩ else ⟨0, 0, 7⟩
theorem parseR_form (l : List UInt8) (A B : Nat) (mn sl : Bool) (hmn : (l.head? = some 45) ↔ mn = true) (hA : A = if mn then 1 else 0) (hB : B = A + Rt.dcount 10 (l.drop A)) (hsl : ((l.drop B).head? = some 47) ↔ sl = true) :
    Rt.parseR l = fin (if mn then -(Rt.dnum 10 (l.drop A) : Int) else Rt.dnum 10 (l.drop A)) (if sl then (Rt.dnum 10 (l.drop (B + 1)) : Int) else 1) l := by
  unfold Rt.parseR fin
  have e1 : (if l.head? = some 45 then l.drop 1 else l) = l.drop A := by
    rw [hA]
    cases mn with
    | true => rw [if_pos (hmn.2 rfl)]; rfl
    | false => rw [if_neg (fun h => by simpa using hmn.1 h)]; rfl
  simp only [e1]
  have e2 : (l.drop A).drop (Rt.dcount 10 (l.drop A)) = l.drop B := by rw [List.drop_drop, hB]
  rw [e2]
  have e3 : (l.drop B).drop 1 = l.drop (B + 1) := by rw [List.drop_drop]
  rw [e3]
  cases mn <;> cases sl <;> simp_all

theorem rparse_T_T (s : ByteArray) (hs : s.size ≤ 60) (h0 : 0 < s.size) (hc0 : s[0]'h0 = 45) (B : Nat) (hB : B = 1 + Rt.dcount 10 (s.data.toList.drop 1)) (g0 : B < s.size) (gc : s[B]'g0 = 47) (w : World) :
    Calls Tryd.prog 70 #[.string s] w fun e w' => e = .returned (refV (Rt.parseR s.data.toList)) ∧ Below w.heap.size w w' := by
  have hs2 : (s.size : Int) ≤ 60 := by omega
  have pf := parseR_form s.data.toList 1 B true true (by have h := hd_at s 0 h0; rw [List.drop_zero] at h; rw [h, hc0]; simp) rfl hB (by rw [hd_at s B g0, gc]; simp)
  simp only [if_true] at pf
  rw [pf]
  have HD1 := Lib.hid (rdigits s 1 (by omega) (by omega))
  rw [← hB] at HD1
  have n2 := dnum_lt (s.data.toList.drop 1)
  have n1 : (0 : Int) ≤ (Rt.dnum 10 (s.data.toList.drop 1) : Int) := by omega
  generalize (Rt.dnum 10 (s.data.toList.drop 1) : Int) = N at *
  have HD2 := Lib.hid (rdigits s (B + 1) (by omega) (by omega))
  rw [show ((B + 1 : Nat) : Int) = (B : Int) + 1 by omega] at HD2
  generalize (Rt.dnum 10 (s.data.toList.drop (B + 1)) : Int) = D at *
  unfold fin
  by_cases hv : Rt.vldP (-N) D
  · have HV := Lib.hid fun W => rvalid_yes (-N) D W hv
    have HP := Lib.hid fun W => rprint (-N) D hv W
    by_cases hp : Rt.pr (-N) D = s.data.toList
    · rw [if_pos ⟨Rt.vld_iff.2 hv, hp⟩]
      rw [str_of hp] at HP
      exact rparse_T_T_eq s hs2 N D B n1 n2 _ h0 hc0 g0 gc HD1 HD2 HV HP w
    · rw [if_neg (fun h => hp h.2)]
      exact rparse_T_T_ne s hs2 N D B n1 n2 _ h0 hc0 g0 gc HD1 HD2 HV _ (str_ne hp) HP w
  · rw [if_neg (fun h => hv (Rt.vld_iff.1 h.1))]
    exact rparse_T_T_bad s hs2 N D B n1 n2 _ h0 hc0 g0 gc HD1 HD2 (Lib.hid fun W => rvalid_not (-N) D W hv) w

theorem rparse_T_F0 (s : ByteArray) (hs : s.size ≤ 60) (h0 : 0 < s.size) (hc0 : s[0]'h0 = 45) (B : Nat) (hB : B = 1 + Rt.dcount 10 (s.data.toList.drop 1)) (g0 : ¬ B < s.size) (w : World) :
    Calls Tryd.prog 70 #[.string s] w fun e w' => e = .returned (refV (Rt.parseR s.data.toList)) ∧ Below w.heap.size w w' := by
  have hs2 : (s.size : Int) ≤ 60 := by omega
  have pf := parseR_form s.data.toList 1 B true false (by have h := hd_at s 0 h0; rw [List.drop_zero] at h; rw [h, hc0]; simp) rfl hB (by rw [hd_no s B g0]; simp)
  simp only [if_true, Bool.false_eq_true, if_false] at pf
  rw [pf]
  have HD1 := Lib.hid (rdigits s 1 (by omega) (by omega))
  rw [← hB] at HD1
  have n2 := dnum_lt (s.data.toList.drop 1)
  have n1 : (0 : Int) ≤ (Rt.dnum 10 (s.data.toList.drop 1) : Int) := by omega
  generalize (Rt.dnum 10 (s.data.toList.drop 1) : Int) = N at *
  unfold fin
  by_cases hv : Rt.vldP (-N) 1
  · have HV := Lib.hid fun W => rvalid_yes (-N) 1 W hv
    have HP := Lib.hid fun W => rprint (-N) 1 hv W
    by_cases hp : Rt.pr (-N) 1 = s.data.toList
    · rw [if_pos ⟨Rt.vld_iff.2 hv, hp⟩]
      rw [str_of hp] at HP
      exact rparse_T_F0_eq s hs2 N B n1 n2 h0 hc0 (by omega) HD1 HV HP w
    · rw [if_neg (fun h => hp h.2)]
      exact rparse_T_F0_ne s hs2 N B n1 n2 h0 hc0 (by omega) HD1 HV _ (str_ne hp) HP w
  · rw [if_neg (fun h => hv (Rt.vld_iff.1 h.1))]
    exact rparse_T_F0_bad s hs2 N B n1 n2 h0 hc0 (by omega) HD1 (Lib.hid fun W => rvalid_not (-N) 1 W hv) w

theorem rparse_T_F1 (s : ByteArray) (hs : s.size ≤ 60) (h0 : 0 < s.size) (hc0 : s[0]'h0 = 45) (B : Nat) (hB : B = 1 + Rt.dcount 10 (s.data.toList.drop 1)) (g0 : B < s.size) (gc : ¬ s[B]'g0 = 47) (w : World) :
    Calls Tryd.prog 70 #[.string s] w fun e w' => e = .returned (refV (Rt.parseR s.data.toList)) ∧ Below w.heap.size w w' := by
  have hs2 : (s.size : Int) ≤ 60 := by omega
  have pf := parseR_form s.data.toList 1 B true false (by have h := hd_at s 0 h0; rw [List.drop_zero] at h; rw [h, hc0]; simp) rfl hB (by rw [hd_at s B g0]; simp [gc])
  simp only [if_true, Bool.false_eq_true, if_false] at pf
  rw [pf]
  have HD1 := Lib.hid (rdigits s 1 (by omega) (by omega))
  rw [← hB] at HD1
  have n2 := dnum_lt (s.data.toList.drop 1)
  have n1 : (0 : Int) ≤ (Rt.dnum 10 (s.data.toList.drop 1) : Int) := by omega
  generalize (Rt.dnum 10 (s.data.toList.drop 1) : Int) = N at *
  unfold fin
  by_cases hv : Rt.vldP (-N) 1
  · have HV := Lib.hid fun W => rvalid_yes (-N) 1 W hv
    have HP := Lib.hid fun W => rprint (-N) 1 hv W
    by_cases hp : Rt.pr (-N) 1 = s.data.toList
    · rw [if_pos ⟨Rt.vld_iff.2 hv, hp⟩]
      rw [str_of hp] at HP
      exact rparse_T_F1_eq s hs2 N B n1 n2 h0 hc0 g0 _ rfl (u8_ne2 gc) HD1 HV HP w
    · rw [if_neg (fun h => hp h.2)]
      exact rparse_T_F1_ne s hs2 N B n1 n2 h0 hc0 g0 _ rfl (u8_ne2 gc) HD1 HV _ (str_ne hp) HP w
  · rw [if_neg (fun h => hv (Rt.vld_iff.1 h.1))]
    exact rparse_T_F1_bad s hs2 N B n1 n2 h0 hc0 g0 _ rfl (u8_ne2 gc) HD1 (Lib.hid fun W => rvalid_not (-N) 1 W hv) w

theorem rparse_F1_T (s : ByteArray) (hs : s.size ≤ 60) (h0 : 0 < s.size) (hc0 : ¬ s[0]'h0 = 45) (B : Nat) (hB : B = 0 + Rt.dcount 10 (s.data.toList.drop 0)) (g0 : B < s.size) (gc : s[B]'g0 = 47) (w : World) :
    Calls Tryd.prog 70 #[.string s] w fun e w' => e = .returned (refV (Rt.parseR s.data.toList)) ∧ Below w.heap.size w w' := by
  have hs2 : (s.size : Int) ≤ 60 := by omega
  have pf := parseR_form s.data.toList 0 B false true (by have h := hd_at s 0 h0; rw [List.drop_zero] at h; rw [h]; simp [hc0]) rfl hB (by rw [hd_at s B g0, gc]; simp)
  simp only [if_true, Bool.false_eq_true, if_false] at pf
  rw [pf]
  have HD1 := Lib.hid (rdigits s 0 (by omega) (by omega))
  rw [← hB] at HD1
  have n2 := dnum_lt (s.data.toList.drop 0)
  have n1 : (0 : Int) ≤ (Rt.dnum 10 (s.data.toList.drop 0) : Int) := by omega
  generalize (Rt.dnum 10 (s.data.toList.drop 0) : Int) = N at *
  have HD2 := Lib.hid (rdigits s (B + 1) (by omega) (by omega))
  rw [show ((B + 1 : Nat) : Int) = (B : Int) + 1 by omega] at HD2
  generalize (Rt.dnum 10 (s.data.toList.drop (B + 1)) : Int) = D at *
  unfold fin
  by_cases hv : Rt.vldP N D
  · have HV := Lib.hid fun W => rvalid_yes N D W hv
    have HP := Lib.hid fun W => rprint N D hv W
    by_cases hp : Rt.pr N D = s.data.toList
    · rw [if_pos ⟨Rt.vld_iff.2 hv, hp⟩]
      rw [str_of hp] at HP
      exact rparse_F1_T_eq s hs2 N D B n1 n2 _ h0 _ rfl (u8_ne hc0) g0 gc HD1 HD2 HV HP w
    · rw [if_neg (fun h => hp h.2)]
      exact rparse_F1_T_ne s hs2 N D B n1 n2 _ h0 _ rfl (u8_ne hc0) g0 gc HD1 HD2 HV _ (str_ne hp) HP w
  · rw [if_neg (fun h => hv (Rt.vld_iff.1 h.1))]
    exact rparse_F1_T_bad s hs2 N D B n1 n2 _ h0 _ rfl (u8_ne hc0) g0 gc HD1 HD2 (Lib.hid fun W => rvalid_not N D W hv) w

theorem rparse_F1_F0 (s : ByteArray) (hs : s.size ≤ 60) (h0 : 0 < s.size) (hc0 : ¬ s[0]'h0 = 45) (B : Nat) (hB : B = 0 + Rt.dcount 10 (s.data.toList.drop 0)) (g0 : ¬ B < s.size) (w : World) :
    Calls Tryd.prog 70 #[.string s] w fun e w' => e = .returned (refV (Rt.parseR s.data.toList)) ∧ Below w.heap.size w w' := by
  have hs2 : (s.size : Int) ≤ 60 := by omega
  have pf := parseR_form s.data.toList 0 B false false (by have h := hd_at s 0 h0; rw [List.drop_zero] at h; rw [h]; simp [hc0]) rfl hB (by rw [hd_no s B g0]; simp)
  simp only [Bool.false_eq_true, if_false] at pf
  rw [pf]
  have HD1 := Lib.hid (rdigits s 0 (by omega) (by omega))
  rw [← hB] at HD1
  have n2 := dnum_lt (s.data.toList.drop 0)
  have n1 : (0 : Int) ≤ (Rt.dnum 10 (s.data.toList.drop 0) : Int) := by omega
  generalize (Rt.dnum 10 (s.data.toList.drop 0) : Int) = N at *
  unfold fin
  by_cases hv : Rt.vldP N 1
  · have HV := Lib.hid fun W => rvalid_yes N 1 W hv
    have HP := Lib.hid fun W => rprint N 1 hv W
    by_cases hp : Rt.pr N 1 = s.data.toList
    · rw [if_pos ⟨Rt.vld_iff.2 hv, hp⟩]
      rw [str_of hp] at HP
      exact rparse_F1_F0_eq s hs2 N B n1 n2 h0 _ rfl (u8_ne hc0) (by omega) HD1 HV HP w
    · rw [if_neg (fun h => hp h.2)]
      exact rparse_F1_F0_ne s hs2 N B n1 n2 h0 _ rfl (u8_ne hc0) (by omega) HD1 HV _ (str_ne hp) HP w
  · rw [if_neg (fun h => hv (Rt.vld_iff.1 h.1))]
    exact rparse_F1_F0_bad s hs2 N B n1 n2 h0 _ rfl (u8_ne hc0) (by omega) HD1 (Lib.hid fun W => rvalid_not N 1 W hv) w

theorem rparse_F1_F1 (s : ByteArray) (hs : s.size ≤ 60) (h0 : 0 < s.size) (hc0 : ¬ s[0]'h0 = 45) (B : Nat) (hB : B = 0 + Rt.dcount 10 (s.data.toList.drop 0)) (g0 : B < s.size) (gc : ¬ s[B]'g0 = 47) (w : World) :
    Calls Tryd.prog 70 #[.string s] w fun e w' => e = .returned (refV (Rt.parseR s.data.toList)) ∧ Below w.heap.size w w' := by
  have hs2 : (s.size : Int) ≤ 60 := by omega
  have pf := parseR_form s.data.toList 0 B false false (by have h := hd_at s 0 h0; rw [List.drop_zero] at h; rw [h]; simp [hc0]) rfl hB (by rw [hd_at s B g0]; simp [gc])
  simp only [Bool.false_eq_true, if_false] at pf
  rw [pf]
  have HD1 := Lib.hid (rdigits s 0 (by omega) (by omega))
  rw [← hB] at HD1
  have n2 := dnum_lt (s.data.toList.drop 0)
  have n1 : (0 : Int) ≤ (Rt.dnum 10 (s.data.toList.drop 0) : Int) := by omega
  generalize (Rt.dnum 10 (s.data.toList.drop 0) : Int) = N at *
  unfold fin
  by_cases hv : Rt.vldP N 1
  · have HV := Lib.hid fun W => rvalid_yes N 1 W hv
    have HP := Lib.hid fun W => rprint N 1 hv W
    by_cases hp : Rt.pr N 1 = s.data.toList
    · rw [if_pos ⟨Rt.vld_iff.2 hv, hp⟩]
      rw [str_of hp] at HP
      exact rparse_F1_F1_eq s hs2 N B n1 n2 h0 _ rfl (u8_ne hc0) g0 _ rfl (u8_ne2 gc) HD1 HV HP w
    · rw [if_neg (fun h => hp h.2)]
      exact rparse_F1_F1_ne s hs2 N B n1 n2 h0 _ rfl (u8_ne hc0) g0 _ rfl (u8_ne2 gc) HD1 HV _ (str_ne hp) HP w
  · rw [if_neg (fun h => hv (Rt.vld_iff.1 h.1))]
    exact rparse_F1_F1_bad s hs2 N B n1 n2 h0 _ rfl (u8_ne hc0) g0 _ rfl (u8_ne2 gc) HD1 (Lib.hid fun W => rvalid_not N 1 W hv) w

theorem rparse_F0_F0 (s : ByteArray) (hs : s.size ≤ 60) (h0 : ¬ 0 < s.size) (B : Nat) (hB : B = 0 + Rt.dcount 10 (s.data.toList.drop 0)) (g0 : ¬ B < s.size) (w : World) :
    Calls Tryd.prog 70 #[.string s] w fun e w' => e = .returned (refV (Rt.parseR s.data.toList)) ∧ Below w.heap.size w w' := by
  have hs2 : (s.size : Int) ≤ 60 := by omega
  have pf := parseR_form s.data.toList 0 B false false (by have h := hd_no s 0 h0; rw [List.drop_zero] at h; rw [h]; simp) rfl hB (by rw [hd_no s B g0]; simp)
  simp only [Bool.false_eq_true, if_false] at pf
  rw [pf]
  have HD1 := Lib.hid (rdigits s 0 (by omega) (by omega))
  rw [← hB] at HD1
  have n2 := dnum_lt (s.data.toList.drop 0)
  have n1 : (0 : Int) ≤ (Rt.dnum 10 (s.data.toList.drop 0) : Int) := by omega
  generalize (Rt.dnum 10 (s.data.toList.drop 0) : Int) = N at *
  unfold fin
  by_cases hv : Rt.vldP N 1
  · have HV := Lib.hid fun W => rvalid_yes N 1 W hv
    have HP := Lib.hid fun W => rprint N 1 hv W
    by_cases hp : Rt.pr N 1 = s.data.toList
    · rw [if_pos ⟨Rt.vld_iff.2 hv, hp⟩]
      rw [str_of hp] at HP
      exact rparse_F0_F0_eq s hs2 N B n1 n2 (by omega) (by omega) HD1 HV HP w
    · rw [if_neg (fun h => hp h.2)]
      exact rparse_F0_F0_ne s hs2 N B n1 n2 (by omega) (by omega) HD1 HV _ (str_ne hp) HP w
  · rw [if_neg (fun h => hv (Rt.vld_iff.1 h.1))]
    exact rparse_F0_F0_bad s hs2 N B n1 n2 (by omega) (by omega) HD1 (Lib.hid fun W => rvalid_not N 1 W hv) w

theorem rparse_any (s : ByteArray) (hs : s.size ≤ 60) (w : World) :
    Calls Tryd.prog 70 #[.string s] w fun e w' => e = .returned (refV (Rt.parseR s.data.toList)) ∧ Below w.heap.size w w' := by
  by_cases h0 : 0 < s.size
  · by_cases hc : s[0]'h0 = 45
    · obtain ⟨B, hB⟩ : ∃ B, B = 1 + Rt.dcount 10 (s.data.toList.drop 1) := ⟨_, rfl⟩
      by_cases g0 : B < s.size
      · by_cases gc : s[B]'g0 = 47
        · exact rparse_T_T s hs h0 hc B hB g0 gc w
        · exact rparse_T_F1 s hs h0 hc B hB g0 gc w
      · exact rparse_T_F0 s hs h0 hc B hB g0 w
    · obtain ⟨B, hB⟩ : ∃ B, B = 0 + Rt.dcount 10 (s.data.toList.drop 0) := ⟨_, rfl⟩
      by_cases g0 : B < s.size
      · by_cases gc : s[B]'g0 = 47
        · exact rparse_F1_T s hs h0 hc B hB g0 gc w
        · exact rparse_F1_F1 s hs h0 hc B hB g0 gc w
      · exact rparse_F1_F0 s hs h0 hc B hB g0 w
  · obtain ⟨B, hB⟩ : ∃ B, B = 0 + Rt.dcount 10 (s.data.toList.drop 0) := ⟨_, rfl⟩
    exact rparse_F0_F0 s hs h0 B hB (by omega) w
end Go.Proofs.YtffabmojbelaaaaDoor
