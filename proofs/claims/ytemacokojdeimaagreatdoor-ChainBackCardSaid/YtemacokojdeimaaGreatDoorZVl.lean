/- The specification's value. -/
import Derived.Test.YtemacokojdeimaaGreatDoorZTy
import Derived.Test.YtemacokojdeimaaGreatDoorZRl
set_option linter.unusedSimpArgs false
set_option linter.unusedVariables false
namespace Tx
theorem dgo_le : ∀ (l : List UInt8) (n : Nat), n ≤ 9007199254740992 → (dgo l n).1 ≤ 9007199254740992 ∧ (dgo l n).2 ≤ l.length
  | [], n, h => ⟨h, Nat.le_refl _⟩
  | c :: r, n, h => by
    have i := dgo_le r (min (10 * n + (c.toNat - 48)) 9007199254740992) (Nat.min_le_right _ _)
    unfold dgo
    split
    · exact ⟨i.1, by simp only [List.length_cons]; omega⟩
    · exact ⟨h, Nat.zero_le _⟩
theorem dgo_at {s : List UInt8} {p n : Nat} (h : p < s.length) : dgo (s.drop p) n = if 48 ≤ (s[p]).toNat ∧ (s[p]).toNat ≤ 57 then ((dgo (s.drop (p + 1)) (min (10 * n + ((s[p]).toNat - 48)) 9007199254740992)).1, (dgo (s.drop (p + 1)) (min (10 * n + ((s[p]).toNat - 48)) 9007199254740992)).2 + 1) else (n, 0) := by
  rw [List.drop_eq_getElem_cons h, dgo]
theorem dgo_end {s : List UInt8} {p n : Nat} (h : s.length ≤ p) : dgo (s.drop p) n = (n, 0) := by
  rw [List.drop_of_length_le h]; rfl
end Tx
namespace Go.Proofs.YtemacokojdeimaaGreatDoor
open Go.RowKit

theorem byte_at (s : ByteArray) (p : Nat) (h : p < s.size) (h2 : p < s.data.toList.length) : s.data.toList[p] = s[p]'h := by
  rw [Array.getElem_toList]
  rfl

set_option maxRecDepth 100000 in
set_option maxHeartbeats 4000000 in
/-- from a place on, behind the sign -/
theorem value_any (s : ByteArray) (hs : s.size ≤ 1000000) (p : Nat) (hp : p ≤ 10000000) (w : World) :
    Calls Tryz.prog 30 #[.string s, .int .i64 (p : Int)] w fun e w' => e = .returned (.tuple #[.int .i64 (Tx.vAt s.data.toList p).1, .int .i64 ((Tx.vAt s.data.toList p).2 : Nat)]) ∧ Below w.heap.size w w' := by
  have hz : s.data.toList.length = s.size := by simp
  have i1 : (s.size : Int) ≤ 1000000 := by omega
  obtain ⟨V, hV⟩ : ∃ V, Tx.vAt s.data.toList p = V := ⟨_, rfl⟩
  rw [hV]
  unfold Tx.vAt at hV
  by_cases hlt : p < s.size
  · have hlt2 : p < s.data.toList.length := by omega
    have i2 : (p : Int) < (s.size : Int) := by omega
    have i3 : (0 : Int) ≤ (p : Int) := by omega
    have hb := byte_at s p hlt hlt2
    have hh : (s.data.toList.drop p).head? = some (s[p]'hlt) := by rw [List.drop_eq_getElem_cons hlt2, hb]; rfl
    rw [hh] at hV
    obtain ⟨c, hc⟩ : ∃ c, s[p]'hlt = c := ⟨_, rfl⟩
    rw [hc] at hV
    replace hV := Lib.hid hV
    clear hb hh
    by_cases h45 : c = 45
    · subst h45
      rw [if_pos rfl] at hV
      go_enter Tryz.func30, Tryz.ntmps30
      go_wp2
      go_loopw [1, 7] (fun av nv wr => ∃ (j N : Nat), av = .int .i64 j ∧ nv = .int .i64 N ∧ N ≤ 9007199254740992 ∧ p + 1 ≤ j ∧ j ≤ 10000001 ∧ wr = w ∧ Hid (Tx.dgo (s.data.toList.drop (p + 1)) 0 = ((Tx.dgo (s.data.toList.drop j) N).1, (Tx.dgo (s.data.toList.drop j) N).2 + (j - (p + 1))))) (fun av _ _ => s.size - (RowKit.intOf av).toNat)
      case atStart => exact ⟨p + 1, 0, by first | rfl | (congr 1; omega) | simp, rfl, by omega, Nat.le_refl _, by omega, rfl, Lib.hid (by simp)⟩
      case round =>
        obtain ⟨j, N, rfl, rfl, hN, hqj, hj, rfl, hd⟩ := hrel
        have n1 : (0 : Int) ≤ (N : Int) := by omega
        have n2 : (N : Int) ≤ 9007199254740992 := by omega
        have j1 : (0 : Int) ≤ (j : Int) := by omega
        have j2 : (j : Int) ≤ 10000001 := by omega
        by_cases hjs : j < s.size
        · have k2 : (j : Int) < (s.size : Int) := by omega
          have hjs2 : j < s.data.toList.length := by omega
          have hat := Tx.dgo_at (s := s.data.toList) (p := j) (n := N) hjs2
          rw [byte_at s j hjs hjs2] at hat
          obtain ⟨c, hc⟩ : ∃ c, s[j]'hjs = c := ⟨_, rfl⟩
          rw [hc] at hat
          have c0 : (0 : Int) ≤ (c.toNat : Int) := by omega
          have c1 : (c.toNat : Int) < 256 := by have := c.toNat_lt; omega
          by_cases h48 : 48 ≤ c.toNat
          · have g48 : (48 : Int) ≤ (c.toNat : Int) := by omega
            by_cases h57 : c.toNat ≤ 57
            · have g57 : (c.toNat : Int) ≤ 57 := by omega
              rw [if_pos ⟨h48, h57⟩] at hat
              rw [hat] at hd
              replace hd : Hid (Tx.dgo (s.data.toList.drop (p + 1)) 0 = ((Tx.dgo (s.data.toList.drop (j + 1)) (min (10 * N + (c.toNat - 48)) 9007199254740992)).1, (Tx.dgo (s.data.toList.drop (j + 1)) (min (10 * N + (c.toNat - 48)) 9007199254740992)).2 + (j + 1 - (p + 1)))) := Lib.hid (by
                rw [hd.out]
                congr 1
                simp only
                omega)
              clear hat
              go_wp2
              go_roundw
              case rel => exact ⟨j + 1, min (10 * N + (c.toNat - 48)) 9007199254740992, by go_num, by first | (congr 1; omega) | (congr 1; simp; omega), Nat.min_le_right _ _, by omega, by omega, by first | rfl | trivial, hd⟩
              case measure => first | (simp [RowKit.intOf]; done) | (simp [RowKit.intOf]; omega) | omega
            · have g57 : ¬ (c.toNat : Int) ≤ 57 := by omega
              rw [if_neg (fun h => h57 h.2)] at hat
              rw [hat] at hd
              rw [hd.out] at hV
              clear hat
              go_wp2
              go_ret2
              refine ⟨?_, (by repeat (first | with_reducible exact Below.refl _ _ | with_reducible assumption | refine below_drewN ?_ _ | refine Below.drew ?_ | refine Below.alloc ?_ (by first | (simp; done) | (simp; omega) | omega) _ | refine Below.setCell ?_ (by first | (simp; done) | (simp; omega) | omega) _ | refine Below.trans ?_ (Below.mono (by assumption) (by first | (simp; done) | (simp; omega) | omega))))⟩
              rw [← hV.out]
              first | rfl | (simp; omega)
          · have g48 : ¬ (48 : Int) ≤ (c.toNat : Int) := by omega
            rw [if_neg (fun h => h48 h.1)] at hat
            rw [hat] at hd
            rw [hd.out] at hV
            clear hat
            go_wp2
            go_ret2
            refine ⟨?_, (by repeat (first | with_reducible exact Below.refl _ _ | with_reducible assumption | refine below_drewN ?_ _ | refine Below.drew ?_ | refine Below.alloc ?_ (by first | (simp; done) | (simp; omega) | omega) _ | refine Below.setCell ?_ (by first | (simp; done) | (simp; omega) | omega) _ | refine Below.trans ?_ (Below.mono (by assumption) (by first | (simp; done) | (simp; omega) | omega))))⟩
            rw [← hV.out]
            first | rfl | (simp; omega)
        · have k2 : ¬ (j : Int) < (s.size : Int) := by omega
          rw [Tx.dgo_end (s := s.data.toList) (p := j) (n := N) (by omega)] at hd
          rw [hd.out] at hV
          go_wp2
          go_ret2
          refine ⟨?_, (by repeat (first | with_reducible exact Below.refl _ _ | with_reducible assumption | refine below_drewN ?_ _ | refine Below.drew ?_ | refine Below.alloc ?_ (by first | (simp; done) | (simp; omega) | omega) _ | refine Below.setCell ?_ (by first | (simp; done) | (simp; omega) | omega) _ | refine Below.trans ?_ (Below.mono (by assumption) (by first | (simp; done) | (simp; omega) | omega))))⟩
          rw [← hV.out]
          first | rfl | (simp; omega)
    · have n45 : ¬ ((c.toNat : Int) = 45) := by
        intro e
        exact h45 (UInt8.toNat_inj.1 (by simpa using Int.ofNat.inj e))
      rw [if_neg (fun e => h45 (Option.some.inj e))] at hV
      go_enter Tryz.func30, Tryz.ntmps30
      go_wp2
      go_loopw [1, 7] (fun av nv wr => ∃ (j N : Nat), av = .int .i64 j ∧ nv = .int .i64 N ∧ N ≤ 9007199254740992 ∧ p ≤ j ∧ j ≤ 10000001 ∧ wr = w ∧ Hid (Tx.dgo (s.data.toList.drop (p)) 0 = ((Tx.dgo (s.data.toList.drop j) N).1, (Tx.dgo (s.data.toList.drop j) N).2 + (j - (p))))) (fun av _ _ => s.size - (RowKit.intOf av).toNat)
      case atStart => exact ⟨p, 0, by first | rfl | (congr 1; omega) | simp, rfl, by omega, Nat.le_refl _, by omega, rfl, Lib.hid (by simp)⟩
      case round =>
        obtain ⟨j, N, rfl, rfl, hN, hqj, hj, rfl, hd⟩ := hrel
        have n1 : (0 : Int) ≤ (N : Int) := by omega
        have n2 : (N : Int) ≤ 9007199254740992 := by omega
        have j1 : (0 : Int) ≤ (j : Int) := by omega
        have j2 : (j : Int) ≤ 10000001 := by omega
        by_cases hjs : j < s.size
        · have k2 : (j : Int) < (s.size : Int) := by omega
          have hjs2 : j < s.data.toList.length := by omega
          have hat := Tx.dgo_at (s := s.data.toList) (p := j) (n := N) hjs2
          rw [byte_at s j hjs hjs2] at hat
          obtain ⟨c, hc⟩ : ∃ c, s[j]'hjs = c := ⟨_, rfl⟩
          rw [hc] at hat
          have c0 : (0 : Int) ≤ (c.toNat : Int) := by omega
          have c1 : (c.toNat : Int) < 256 := by have := c.toNat_lt; omega
          by_cases h48 : 48 ≤ c.toNat
          · have g48 : (48 : Int) ≤ (c.toNat : Int) := by omega
            by_cases h57 : c.toNat ≤ 57
            · have g57 : (c.toNat : Int) ≤ 57 := by omega
              rw [if_pos ⟨h48, h57⟩] at hat
              rw [hat] at hd
              replace hd : Hid (Tx.dgo (s.data.toList.drop (p)) 0 = ((Tx.dgo (s.data.toList.drop (j + 1)) (min (10 * N + (c.toNat - 48)) 9007199254740992)).1, (Tx.dgo (s.data.toList.drop (j + 1)) (min (10 * N + (c.toNat - 48)) 9007199254740992)).2 + (j + 1 - (p)))) := Lib.hid (by
                rw [hd.out]
                congr 1
                simp only
                omega)
              clear hat
              go_wp2
              go_roundw
              case rel => exact ⟨j + 1, min (10 * N + (c.toNat - 48)) 9007199254740992, by go_num, by first | (congr 1; omega) | (congr 1; simp; omega), Nat.min_le_right _ _, by omega, by omega, by first | rfl | trivial, hd⟩
              case measure => first | (simp [RowKit.intOf]; done) | (simp [RowKit.intOf]; omega) | omega
            · have g57 : ¬ (c.toNat : Int) ≤ 57 := by omega
              rw [if_neg (fun h => h57 h.2)] at hat
              rw [hat] at hd
              rw [hd.out] at hV
              clear hat
              go_wp2
              go_ret2
              refine ⟨?_, (by repeat (first | with_reducible exact Below.refl _ _ | with_reducible assumption | refine below_drewN ?_ _ | refine Below.drew ?_ | refine Below.alloc ?_ (by first | (simp; done) | (simp; omega) | omega) _ | refine Below.setCell ?_ (by first | (simp; done) | (simp; omega) | omega) _ | refine Below.trans ?_ (Below.mono (by assumption) (by first | (simp; done) | (simp; omega) | omega))))⟩
              rw [← hV.out]
              first | rfl | (simp; omega)
          · have g48 : ¬ (48 : Int) ≤ (c.toNat : Int) := by omega
            rw [if_neg (fun h => h48 h.1)] at hat
            rw [hat] at hd
            rw [hd.out] at hV
            clear hat
            go_wp2
            go_ret2
            refine ⟨?_, (by repeat (first | with_reducible exact Below.refl _ _ | with_reducible assumption | refine below_drewN ?_ _ | refine Below.drew ?_ | refine Below.alloc ?_ (by first | (simp; done) | (simp; omega) | omega) _ | refine Below.setCell ?_ (by first | (simp; done) | (simp; omega) | omega) _ | refine Below.trans ?_ (Below.mono (by assumption) (by first | (simp; done) | (simp; omega) | omega))))⟩
            rw [← hV.out]
            first | rfl | (simp; omega)
        · have k2 : ¬ (j : Int) < (s.size : Int) := by omega
          rw [Tx.dgo_end (s := s.data.toList) (p := j) (n := N) (by omega)] at hd
          rw [hd.out] at hV
          go_wp2
          go_ret2
          refine ⟨?_, (by repeat (first | with_reducible exact Below.refl _ _ | with_reducible assumption | refine below_drewN ?_ _ | refine Below.drew ?_ | refine Below.alloc ?_ (by first | (simp; done) | (simp; omega) | omega) _ | refine Below.setCell ?_ (by first | (simp; done) | (simp; omega) | omega) _ | refine Below.trans ?_ (Below.mono (by assumption) (by first | (simp; done) | (simp; omega) | omega))))⟩
          rw [← hV.out]
          first | rfl | (simp; omega)
  · have i2 : ¬ (p : Int) < (s.size : Int) := by omega
    rw [List.drop_of_length_le (show s.data.toList.length ≤ p by omega), if_neg (by simp)] at hV
    have hV2 : Hid (((((Tx.dgo (s.data.toList.drop p) 0).1 : Nat) : Int), p + (Tx.dgo (s.data.toList.drop p) 0).2) = V) := Lib.hid (by rw [List.drop_of_length_le (show s.data.toList.length ≤ p by omega)]; exact hV)
    clear hV
    have hV := hV2
    clear hV2
    go_enter Tryz.func30, Tryz.ntmps30
    go_wp2
    go_loopw [1, 7] (fun av nv wr => ∃ (j N : Nat), av = .int .i64 j ∧ nv = .int .i64 N ∧ N ≤ 9007199254740992 ∧ p ≤ j ∧ j ≤ 10000001 ∧ wr = w ∧ Hid (Tx.dgo (s.data.toList.drop (p)) 0 = ((Tx.dgo (s.data.toList.drop j) N).1, (Tx.dgo (s.data.toList.drop j) N).2 + (j - (p))))) (fun av _ _ => s.size - (RowKit.intOf av).toNat)
    case atStart => exact ⟨p, 0, by first | rfl | (congr 1; omega) | simp, rfl, by omega, Nat.le_refl _, by omega, rfl, Lib.hid (by simp)⟩
    case round =>
      obtain ⟨j, N, rfl, rfl, hN, hqj, hj, rfl, hd⟩ := hrel
      have n1 : (0 : Int) ≤ (N : Int) := by omega
      have n2 : (N : Int) ≤ 9007199254740992 := by omega
      have j1 : (0 : Int) ≤ (j : Int) := by omega
      have j2 : (j : Int) ≤ 10000001 := by omega
      by_cases hjs : j < s.size
      · have k2 : (j : Int) < (s.size : Int) := by omega
        have hjs2 : j < s.data.toList.length := by omega
        have hat := Tx.dgo_at (s := s.data.toList) (p := j) (n := N) hjs2
        rw [byte_at s j hjs hjs2] at hat
        obtain ⟨c, hc⟩ : ∃ c, s[j]'hjs = c := ⟨_, rfl⟩
        rw [hc] at hat
        have c0 : (0 : Int) ≤ (c.toNat : Int) := by omega
        have c1 : (c.toNat : Int) < 256 := by have := c.toNat_lt; omega
        by_cases h48 : 48 ≤ c.toNat
        · have g48 : (48 : Int) ≤ (c.toNat : Int) := by omega
          by_cases h57 : c.toNat ≤ 57
          · have g57 : (c.toNat : Int) ≤ 57 := by omega
            rw [if_pos ⟨h48, h57⟩] at hat
            rw [hat] at hd
            replace hd : Hid (Tx.dgo (s.data.toList.drop (p)) 0 = ((Tx.dgo (s.data.toList.drop (j + 1)) (min (10 * N + (c.toNat - 48)) 9007199254740992)).1, (Tx.dgo (s.data.toList.drop (j + 1)) (min (10 * N + (c.toNat - 48)) 9007199254740992)).2 + (j + 1 - (p)))) := Lib.hid (by
              rw [hd.out]
              congr 1
              simp only
              omega)
            clear hat
            go_wp2
            go_roundw
            case rel => exact ⟨j + 1, min (10 * N + (c.toNat - 48)) 9007199254740992, by go_num, by first | (congr 1; omega) | (congr 1; simp; omega), Nat.min_le_right _ _, by omega, by omega, by first | rfl | trivial, hd⟩
            case measure => first | (simp [RowKit.intOf]; done) | (simp [RowKit.intOf]; omega) | omega
          · have g57 : ¬ (c.toNat : Int) ≤ 57 := by omega
            rw [if_neg (fun h => h57 h.2)] at hat
            rw [hat] at hd
            rw [hd.out] at hV
            clear hat
            go_wp2
            go_ret2
            refine ⟨?_, (by repeat (first | with_reducible exact Below.refl _ _ | with_reducible assumption | refine below_drewN ?_ _ | refine Below.drew ?_ | refine Below.alloc ?_ (by first | (simp; done) | (simp; omega) | omega) _ | refine Below.setCell ?_ (by first | (simp; done) | (simp; omega) | omega) _ | refine Below.trans ?_ (Below.mono (by assumption) (by first | (simp; done) | (simp; omega) | omega))))⟩
            rw [← hV.out]
            first | rfl | (simp; omega)
        · have g48 : ¬ (48 : Int) ≤ (c.toNat : Int) := by omega
          rw [if_neg (fun h => h48 h.1)] at hat
          rw [hat] at hd
          rw [hd.out] at hV
          clear hat
          go_wp2
          go_ret2
          refine ⟨?_, (by repeat (first | with_reducible exact Below.refl _ _ | with_reducible assumption | refine below_drewN ?_ _ | refine Below.drew ?_ | refine Below.alloc ?_ (by first | (simp; done) | (simp; omega) | omega) _ | refine Below.setCell ?_ (by first | (simp; done) | (simp; omega) | omega) _ | refine Below.trans ?_ (Below.mono (by assumption) (by first | (simp; done) | (simp; omega) | omega))))⟩
          rw [← hV.out]
          first | rfl | (simp; omega)
      · have k2 : ¬ (j : Int) < (s.size : Int) := by omega
        rw [Tx.dgo_end (s := s.data.toList) (p := j) (n := N) (by omega)] at hd
        rw [hd.out] at hV
        go_wp2
        go_ret2
        refine ⟨?_, (by repeat (first | with_reducible exact Below.refl _ _ | with_reducible assumption | refine below_drewN ?_ _ | refine Below.drew ?_ | refine Below.alloc ?_ (by first | (simp; done) | (simp; omega) | omega) _ | refine Below.setCell ?_ (by first | (simp; done) | (simp; omega) | omega) _ | refine Below.trans ?_ (Below.mono (by assumption) (by first | (simp; done) | (simp; omega) | omega))))⟩
        rw [← hV.out]
        first | rfl | (simp; omega)
end Go.Proofs.YtemacokojdeimaaGreatDoor
