/- The specification's Print. -/
import Derived.Test.YtemacokojdeimaaGreatDoorZPn
import Derived.Test.YtemacokojdeimaaGreatDoorZDt
import Derived.Test.YtemacokojdeimaaGreatDoorZ07
set_option linter.unusedSimpArgs false
set_option linter.unusedVariables false
namespace Go.Proofs.YtemacokojdeimaaGreatDoor
open Go.RowKit

theorem digits_b (n : Int) (h : Tx.R64' n) (h2 : n ≠ -9223372036854775808) : ∃ D : ByteArray, Hid (D.data.toList = Lib.itoa n) ∧ D.size ≤ 21 ∧ Hid (∀ w : World, Calls Tryz.prog 31 #[.int .i64 n] w fun e w' => e = .returned (.string D) ∧ Below w.heap.size w w') := by
  obtain ⟨h3, h4⟩ := h
  refine ⟨⟨(Lib.itoa n).toArray⟩, Lib.hid rfl, ?_, Lib.hid fun w => digits_any n (by omega) h4 w⟩
  have := Lib.itoa_length_le n h3 h4
  show (Lib.itoa n).toArray.size ≤ 21
  simpa using this
theorem ba_size (a : ByteArray) : a.size = a.data.toList.length := by simp
theorem ba_append (a b : ByteArray) : (a ++ b).data.toList = a.data.toList ++ b.data.toList := by simp

set_option maxRecDepth 100000 in
set_option maxHeartbeats 8000000 in
theorem rprint_any (n : Int) (a : Option Addr) (m cap : Nat) (L : List Ch.Lk) (hm : Hid (L.length = m)) (hm9 : m ≤ 300) (hR : Hid (Tx.R64' n ∧ ∀ l ∈ L, Tx.R64' l.f ∧ Tx.R64' l.t ∧ Tx.R64' l.m)) (hn : n ≠ -9223372036854775808) (hR2 : Hid (∀ l ∈ L, l.f ≠ -9223372036854775808 ∧ l.t ≠ -9223372036854775808 ∧ l.m ≠ -9223372036854775808)) (w : World) (hL : Hid (LksAt w a L)) :
    Calls Tryz.prog 11 #[.agg #[.int .i64 n, .slice a m cap]] w fun e w' => e = .returned (.string ⟨(Tx.prt n L).toArray⟩) ∧ Below w.heap.size w w' := by
  have hlen : Hid (∀ k, (Tx.pf n L k).length ≤ 200000) := Lib.hid fun k => Tx.pf_len k hR.out.1 hR.out.2 (by have := hm.out; omega)
  obtain ⟨D, hD, hDz, HD⟩ := digits_b n hR.out.1 hn
  go_enter Tryz.func11, Tryz.ntmps11
  go_wp2_with fail
  refine (HD.out _).mono ?_
  rintro e w1 ⟨rfl, hb1⟩
  have k0 : w1.cell? ⟨w.heap.size, 0, none⟩ = some (.int .i64 n) := kept1 (by simp [go_sem]) hb1
  have k1 : w1.cell? ⟨w.heap.size, 1, none⟩ = some (.slice a m cap) := kept1 (by simp [go_sem]) hb1
  have hbw : Below w.heap.size w w1 := (by repeat (first | with_reducible exact Below.refl _ _ | with_reducible assumption | refine below_drewN ?_ _ | refine Below.drew ?_ | refine Below.alloc ?_ (by first | (simp; done) | (simp; omega) | omega) _ | refine Below.setCell ?_ (by first | (simp; done) | (simp; omega) | omega) _ | refine Below.trans ?_ (Below.mono (by assumption) (by first | (simp; done) | (simp; omega) | omega))))
  clear hb1 HD
  go_wp2
  go_loopw [3, 4] (fun sv iv wr => ∃ (k : Nat) (S : ByteArray), k ≤ m ∧ iv = .int .i64 k ∧ sv = .string S ∧ S.size ≤ 200000 ∧ Hid (S.data.toList = Tx.pf n L k) ∧ wr.cell? ⟨w.heap.size, 1, none⟩ = some (.slice a m cap) ∧ Below w.heap.size w wr) (fun _ iv _ => m - (RowKit.intOf iv).toNat)
  case atStart =>
    have hd0 : (({ data := #[110, 111, 100, 101, 115, 32] } : ByteArray) ++ D ++ { data := #[10] }).data.toList = Tx.pf n L 0 := by
      rw [ba_append, ba_append, hD.out]
      simp [Tx.pf, Tx.nodesB, Tx.sp]
    refine ⟨0, _, Nat.zero_le _, rfl, rfl, ?_, Lib.hid hd0, k1, hbw⟩
    rw [ba_size, hd0]
    exact hlen.out 0
  case round =>
    obtain ⟨k, S, hk, rfl, rfl, hS, hSd, k1, hb⟩ := hrel
    by_cases hlt : k < m
    · obtain ⟨f, t, mo, hl⟩ : ∃ f t mo, L.getD k Ch.noLk = ⟨f, t, mo⟩ := ⟨_, _, _, rfl⟩
      have hkL : k < L.length := by have := hm.out; omega
      have hl3 := (hL.out k hkL)
      obtain ⟨x, rfl, hl3⟩ := hl3
      have ⟨hc0, hc1, hc2⟩ := hl3.below hb
      have hmem : L.getD k Ch.noLk ∈ L := by rw [List.getD, List.getElem?_eq_getElem hkL]; exact List.getElem_mem hkL
      have hr := hR.out.2 _ hmem
      have hr2 := hR2.out _ hmem
      have hst := Lib.hid (Tx.pf_succ (n := n) hkL)
      rw [hl] at hc0 hc1 hc2 hr hr2 hst
      simp only at hr hr2
      obtain ⟨D1, hD1, z1, HD1⟩ := digits_b f hr.1 hr2.1
      obtain ⟨D2, hD2, z2, HD2⟩ := digits_b t hr.2.1 hr2.2.1
      obtain ⟨D3, hD3, z3, HD3⟩ := digits_b mo hr.2.2 hr2.2.2
      clear hl3 hl hmem hr hr2
      have hi5 : (k : Int) < (m : Int) := by omega
      have hi6 : (0 : Int) ≤ (k : Int) := by omega
      go_upto_region 6 with fail
      have g0 : (wr.alloc (Obj.cells #[.int .i64 f, .int .i64 t, .int .i64 mo] 54)).cell? ⟨wr.heap.size, 0, none⟩ = some (.int .i64 f) := by simp [go_sem]
      have g1 : (wr.alloc (Obj.cells #[.int .i64 f, .int .i64 t, .int .i64 mo] 54)).cell? ⟨wr.heap.size, 1, none⟩ = some (.int .i64 t) := by simp [go_sem]
      have g2 : (wr.alloc (Obj.cells #[.int .i64 f, .int .i64 t, .int .i64 mo] 54)).cell? ⟨wr.heap.size, 2, none⟩ = some (.int .i64 mo) := by simp [go_sem]
      have hv2 : Below w.heap.size w (wr.alloc (Obj.cells #[.int .i64 f, .int .i64 t, .int .i64 mo] 54)) := below_alloc hb _
      replace k1 : (wr.alloc (Obj.cells #[.int .i64 f, .int .i64 t, .int .i64 mo] 54)).cell? ⟨w.heap.size, 1, none⟩ = some (.slice (some x) m cap) := cell_alloc k1 _
      generalize wr.alloc (Obj.cells #[.int .i64 f, .int .i64 t, .int .i64 mo] 54) = W at *
      generalize wr.heap.size = lb at *
      clear hb hc0 hc1 hc2
      have e1 : ¬ 9223372036854775807 < S.size + 5 := by omega
      have e2 : ¬ 9223372036854775807 < S.size + 5 + D1.size := by omega
      have e3 : ¬ 9223372036854775807 < S.size + 5 + D1.size + 1 := by omega
      have e4 : ¬ 9223372036854775807 < S.size + 5 + D1.size + 1 + D2.size := by omega
      have e5 : ¬ 9223372036854775807 < S.size + 5 + D1.size + 1 + D2.size + 1 := by omega
      have e6 : ¬ 9223372036854775807 < S.size + 5 + D1.size + 1 + D2.size + 1 + D3.size := by omega
      have e7 : ¬ 9223372036854775807 < S.size + 5 + D1.size + 1 + D2.size + 1 + D3.size + 1 := by omega
      have S0 : W.drew.cell? ⟨w.heap.size, 1, none⟩ = some (.slice (some x) m cap) ∧ W.drew.cell? ⟨lb, 0, none⟩ = some (.int .i64 f) ∧ W.drew.cell? ⟨lb, 1, none⟩ = some (.int .i64 t) ∧ W.drew.cell? ⟨lb, 2, none⟩ = some (.int .i64 mo) ∧ Below w.heap.size w W.drew := ⟨by assumption, by assumption, by assumption, by assumption, hv2.drew⟩
      go_region_held3 (fun w' => w'.cell? ⟨w.heap.size, 1, none⟩ = some (.slice (some x) m cap) ∧ w'.cell? ⟨lb, 0, none⟩ = some (.int .i64 f) ∧ w'.cell? ⟨lb, 1, none⟩ = some (.int .i64 t) ∧ w'.cell? ⟨lb, 2, none⟩ = some (.int .i64 mo) ∧ Below w.heap.size w w')
        (first | exact S0 | exact keep4 (by assumption) hbp | exact keep4 (by assumption) (drewN_below _) | exact keep4 (by assumption) (by repeat (first | with_reducible exact Below.refl _ _ | with_reducible assumption | refine below_drewN ?_ _ | refine Below.drew ?_ | refine Below.alloc ?_ (by first | (simp; done) | (simp; omega) | omega) _ | refine Below.setCell ?_ (by first | (simp; done) | (simp; omega) | omega) _ | refine Below.trans ?_ (Below.mono (by assumption) (by first | (simp; done) | (simp; omega) | omega)))) | go_keep)
        (first
          | (go_at_call 31
             with_reducible refine (HD1.out _).mono ?_
             rintro e wp ⟨he, hbp⟩
             subst he)
          | (go_at_call 31
             with_reducible refine (HD2.out _).mono ?_
             rintro e wp ⟨he, hbp⟩
             subst he)
          | (go_at_call 31
             with_reducible refine (HD3.out _).mono ?_
             rintro e wp ⟨he, hbp⟩
             subst he))
      clear S0 k1 g0 g1 g2 hv2
      obtain ⟨k1, -, -, -, hb⟩ : _ ∧ _ ∧ _ ∧ _ ∧ Below w.heap.size w _ := by assumption
      have hdn : (S ++ { data := #[108, 105, 110, 107, 32] } ++ D1 ++ { data := #[32] } ++ D2 ++ { data := #[32] } ++ D3 ++ { data := #[10] } : ByteArray).data.toList = Tx.pf n L (k + 1) := by
        simp only [ba_append]
        rw [hSd.out, hst.out, hD1.out, hD2.out, hD3.out]
        simp [Tx.linkB, Tx.sp]
      have hdz : (S ++ { data := #[108, 105, 110, 107, 32] } ++ D1 ++ { data := #[32] } ++ D2 ++ { data := #[32] } ++ D3 ++ { data := #[10] } : ByteArray).size ≤ 200000 := by
        rw [ba_size, hdn]
        exact hlen.out _
      generalize (S ++ { data := #[108, 105, 110, 107, 32] } ++ D1 ++ { data := #[32] } ++ D2 ++ { data := #[32] } ++ D3 ++ { data := #[10] } : ByteArray) = S2 at *
      replace hdn := Lib.hid hdn
      clear hSd hst hD1 hD2 hD3 e1 e2 e3 e4 e5 e6 e7
      go_wp2
      go_roundw
      case rel => exact ⟨k + 1, S2, by omega, by go_num, rfl, hdz, hdn, k1, hb⟩
      case measure => first | (simp [RowKit.intOf]; done) | (simp [RowKit.intOf]; omega) | omega
    · obtain rfl : k = m := by omega
      have hi5 : ¬ (k : Int) < (k : Int) := by omega
      have e : S = ⟨(Tx.prt n L).toArray⟩ := by
        apply ByteArray.ext
        apply Array.ext'
        rw [hSd.out, Tx.pf_all n L k (by have := hm.out; omega)]
      subst e
      go_wp2
      go_ret
      exact ⟨rfl, hb⟩
end Go.Proofs.YtemacokojdeimaaGreatDoor
