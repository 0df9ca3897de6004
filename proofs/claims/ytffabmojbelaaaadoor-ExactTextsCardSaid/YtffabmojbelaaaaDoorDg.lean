/- The contract of the specification's digits. -/
import Derived.Test.YtffabmojbelaaaaDoorDc
namespace Go.Proofs.YtffabmojbelaaaaDoor
open Go.RowKit

/-- what digits has read behind k bytes from 'at' on -/
theorem dc_step (l : List UInt8) (k j : Nat) (hj : j < k) (hd : Rt.dcount.isDig (l.getD j 0) = true) (hl : j < l.length) (ha : j ≤ Rt.dcount k l) : j + 1 ≤ Rt.dcount k l := by
  induction k generalizing l j with
  | zero => omega
  | succ k ih =>
    cases l with
    | nil => simp at hl
    | cons c r =>
      cases j with
      | zero =>
        simp at hd
        rw [Rt.dcount, if_pos hd]; omega
      | succ j =>
        rw [Rt.dcount] at ha ⊢
        by_cases hc : Rt.dcount.isDig c = true
        · rw [if_pos hc] at ha ⊢
          have := ih r j (by omega) (by simpa using hd) (by simpa using hl) (by omega)
          omega
        · rw [if_neg hc] at ha; omega
theorem dc_stop (l : List UInt8) (k j : Nat) (ha : j ≤ Rt.dcount k l) (h : j = k ∨ l.length ≤ j ∨ Rt.dcount.isDig (l.getD j 0) = false) : Rt.dcount k l = j := by
  induction k generalizing l j with
  | zero => rw [Rt.dcount] at ha ⊢; omega
  | succ k ih =>
    cases l with
    | nil => simp [Rt.dcount] at ha ⊢; omega
    | cons c r =>
      rw [Rt.dcount] at ha ⊢
      by_cases hc : Rt.dcount.isDig c = true
      · rw [if_pos hc] at ha ⊢
        cases j with
        | zero => simp [hc] at h
        | succ j =>
          have := ih r j (by omega) (by simpa using h)
          omega
      · rw [if_neg hc] at ha ⊢; omega
theorem dc_le (k : Nat) (l : List UInt8) : Rt.dcount k l ≤ k ∧ Rt.dcount k l ≤ l.length := by
  induction k generalizing l with
  | zero => simp [Rt.dcount]
  | succ k ih =>
    cases l with
    | nil => simp [Rt.dcount]
    | cons c r =>
      rw [Rt.dcount]
      have := ih r
      split <;> simp <;> omega
theorem take_snoc (l : List UInt8) (j : Nat) (h : j < l.length) : l.take (j + 1) = l.take j ++ [l.getD j 0] := by
  rw [List.take_succ_eq_append_getElem h]; simp [h]
theorem dval_lt (l : List UInt8) (h : ∀ c ∈ l, Rt.isDig c) : Rt.dval 0 l < 10 ^ l.length := by
  have key : ∀ (l : List UInt8) (acc : Nat), (∀ c ∈ l, Rt.isDig c) → Rt.dval acc l < (acc + 1) * 10 ^ l.length := by
    intro l
    induction l with
    | nil => intro acc _; rw [Rt.dval_nil]; simp
    | cons c r ih =>
      intro acc h
      have hc := h c List.mem_cons_self
      unfold Rt.isDig at hc
      have := ih (Rt.dstep acc c) (fun x hx => h x (List.mem_cons_of_mem _ hx))
      rw [Rt.dval_cons]
      have e : Rt.dstep acc c + 1 ≤ (acc + 1) * 10 := by unfold Rt.dstep; omega
      refine Nat.lt_of_lt_of_le this ?_
      rw [List.length_cons, Nat.pow_succ, Nat.mul_comm (10 ^ r.length) 10, ← Nat.mul_assoc]
      exact Nat.mul_le_mul_right _ e
  have := key l 0 h
  simpa using this
theorem dc_digs (k : Nat) (l : List UInt8) : ∀ j, j ≤ Rt.dcount k l → ∀ c ∈ l.take j, Rt.isDig c := by
  induction k generalizing l with
  | zero => intro j hj; rw [Rt.dcount] at hj; obtain rfl : j = 0 := by omega
            simp
  | succ k ih =>
    intro j hj
    cases l with
    | nil => simp
    | cons c r =>
      rw [Rt.dcount] at hj
      by_cases hc : Rt.dcount.isDig c = true
      · rw [if_pos hc] at hj
        cases j with
        | zero => simp
        | succ j =>
          intro x hx
          rw [List.take_succ_cons, List.mem_cons] at hx
          rcases hx with rfl | hx
          · have h2 : decide (48 ≤ x.toNat ∧ x.toNat ≤ 57) = true := hc
            have h3 : 48 ≤ x.toNat ∧ x.toNat ≤ 57 := of_decide_eq_true h2
            exact h3
          · exact ih r j (by omega) x hx
      · rw [if_neg hc] at hj
        obtain rfl : j = 0 := by omega
        simp

set_option maxRecDepth 100000 in
set_option maxHeartbeats 2000000 in
theorem rdigits (s : ByteArray) (A : Nat) (hs : s.size ≤ 4611686018427387904) (hA : A ≤ s.size) (w : World) :
    Calls Tryd.prog 110 #[.string s, .int .i64 (A : Int)] w fun e w' => e = .returned (.tuple #[.int .i64 (Rt.dnum 10 (s.data.toList.drop A) : Int), .int .i64 ((A + Rt.dcount 10 (s.data.toList.drop A) : Nat) : Int)]) ∧ Below w.heap.size w w' := by
  obtain ⟨L, hL⟩ : ∃ L, s.data.toList.drop A = L := ⟨_, rfl⟩
  have hLl : L.length = s.size - A := by rw [← hL, List.length_drop, Array.length_toList]; rfl
  have hLg : ∀ j (h : A + j < s.size), L.getD j 0 = s[A + j] := fun j h => by
    rw [← hL]
    have e1 : (List.drop A s.data.toList).getD j 0 = (s.data.toList[A + j]?).getD 0 := by
      rw [List.getD_eq_getElem?_getD, List.getElem?_drop]
    rw [e1, Array.getElem?_toList, Array.getElem?_eq_getElem (by exact h)]
    rfl
  rw [hL]
  have s1 : (s.size : Int) ≤ 4611686018427387904 := by omega
  have s2 : (A : Int) ≤ (s.size : Int) := by omega
  replace hL := Lib.hid hL
  replace hLg := Lib.hid hLg
  clear hs
  go_enter Tryd.func110, Tryd.ntmps110
  go_wp2
  go_loopw [1, 6] (fun a n wr => ∃ j : Nat, a = .int .i64 ((A + j : Nat) : Int) ∧ n = .int .i64 (Rt.dval 0 (L.take j) : Int) ∧ Hid (j ≤ Rt.dcount 10 L) ∧ Below w.heap.size w wr) (fun a _ _ => s.size - (RowKit.intOf a).toNat)
  case atStart => exact ⟨0, by simp, by simp [Rt.dval_nil], Lib.hid (Nat.zero_le _), (by repeat (first | with_reducible exact Below.refl _ _ | with_reducible assumption | refine below_drewN ?_ _ | refine Below.drew ?_ | refine Below.alloc ?_ (by first | (simp; done) | (simp; omega) | omega) _ | refine Below.setCell ?_ (by first | (simp; done) | (simp; omega) | omega) _ | refine Below.trans ?_ (Below.mono (by assumption) (by first | (simp; done) | (simp; omega) | omega))))⟩
  case round =>
    obtain ⟨j, rfl, rfl, hj, hb⟩ := hrel
    have hd := dc_le 10 L
    have hj10 : j ≤ 10 := by have := hj.out; omega
    have hjl : j ≤ L.length := by have := hj.out; omega
    have hlt := dval_lt (L.take j) (dc_digs 10 L j hj.out)
    have hln : (L.take j).length = j := by simp; omega
    rw [hln] at hlt
    have hp : (10 : Nat) ^ j ≤ 10000000000 := by
      have := Nat.pow_le_pow_right (show 0 < 10 by omega) hj10
      simpa using this
    obtain ⟨v, hv⟩ : ∃ v, Rt.dval 0 (L.take j) = v := ⟨_, rfl⟩
    have hv10 : v < 10000000000 := by omega
    have stop : (j = 10 ∨ L.length ≤ j ∨ Rt.dcount.isDig (L.getD j 0) = false) → Hid (Rt.dnum 10 L = v ∧ Rt.dcount 10 L = j) := fun h => Lib.hid (by
      have e := dc_stop L 10 j hj.out h
      exact ⟨by unfold Rt.dnum; rw [e, hv], e⟩)
    clear hlt hln hp hd
    rw [hv]
    by_cases c1 : A + j < s.size
    · by_cases c2 : j < 10
      · obtain ⟨c, hc⟩ : ∃ c, s[A + j] = c := ⟨_, rfl⟩
        have hcL := hLg.out j c1
        rw [hc] at hcL
        rw [hcL] at stop
        have i1 : ((A + j : Nat) : Int) < (s.size : Int) := by omega
        have i2 : (j : Int) < 10 := by omega
        by_cases c3 : c.toNat < 48
        · have st := stop (.inr (.inr (by simp [Rt.dcount.isDig]; omega)))
          have i3 : (c.toNat : Int) < 48 := by omega
          clear stop
          go_wp2
          go_ret2
          refine ⟨?_, hb⟩
          rw [st.out.1, st.out.2]
          simp
        · by_cases c4 : 57 < c.toNat
          · have st := stop (.inr (.inr (by simp [Rt.dcount.isDig]; omega)))
            have i3 : ¬ (c.toNat : Int) < 48 := by omega
            have i4 : ¬ (c.toNat : Int) ≤ 57 := by omega
            clear stop
            go_wp2
            go_ret2
            refine ⟨?_, hb⟩
            rw [st.out.1, st.out.2]
            simp
          · have i3 : ¬ (c.toNat : Int) < 48 := by omega
            have i4 : (c.toNat : Int) ≤ 57 := by omega
            obtain ⟨V, hV⟩ : ∃ V : Int, (v : Int) = V := ⟨_, rfl⟩
            have i5 : V < 10000000000 := by omega
            have i6 : 0 ≤ V := by omega
            rw [hV]
            replace hV := Lib.hid hV
            have hdg : Rt.dcount.isDig (L.getD j 0) = true := by rw [hcL]; exact decide_eq_true ⟨by omega, by omega⟩
            have hj1 := Lib.hid (dc_step L 10 j c2 hdg (by omega) hj.out)
            have hdv : Hid (Rt.dval 0 (L.take (j + 1)) = v * 10 + (c.toNat - 48)) := Lib.hid (by rw [take_snoc L j (by omega), Rt.dval_snoc, hv, hcL, Rt.dstep])
            clear stop hdg hv10 c2 c3 c4 hj10 hjl
            go_wp2
            go_roundw
            case rel => exact ⟨j + 1, by go_num, by rw [hdv.out]; congr 1; have := hV.out; omega, hj1, hb⟩
            case measure => simp [RowKit.intOf]; omega
      · have st := stop (.inl (by omega))
        have i1 : ((A + j : Nat) : Int) < (s.size : Int) := by omega
        have i2 : ¬ (j : Int) < 10 := by omega
        clear stop
        go_wp2
        go_ret2
        refine ⟨?_, hb⟩
        rw [st.out.1, st.out.2]
        simp
    · have st := stop (.inr (.inl (by omega)))
      have i1 : ¬ ((A + j : Nat) : Int) < (s.size : Int) := by omega
      go_wp2
      go_ret2
      refine ⟨?_, hb⟩
      rw [st.out.1, st.out.2]
      simp
end Go.Proofs.YtffabmojbelaaaaDoor
