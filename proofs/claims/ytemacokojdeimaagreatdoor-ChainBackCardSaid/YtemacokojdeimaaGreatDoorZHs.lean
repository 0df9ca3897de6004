/- Contracts of the specification: SameSystem. -/
import Derived.Test.YtemacokojdeimaaGreatDoorZ07
import Derived.Test.YtemacokojdeimaaGreatDoorZYp
import Derived.BigQuiet
set_option linter.unusedSimpArgs false
set_option linter.unusedVariables false
namespace Go.Proofs.YtemacokojdeimaaGreatDoor
open Go.RowKit

theorem run_neq_lk (f t m f' t' m' : Int) (w : World) : (binOp .neq 54 (.agg #[.int .i64 f, .int .i64 t, .int .i64 m]) (.agg #[.int .i64 f', .int .i64 t', .int .i64 m'])).run Tryz.prog w = .ok (.bool (!(Ch.sameLk ⟨f, t, m⟩ ⟨f', t', m'⟩))) w := by
  have h := run_eql_lk f t m f' t' m' w
  rw [run_eql_struct] at h
  rw [run_neq_struct]
  revert h
  generalize (Op.equalIn 10000 54 (.agg #[.int .i64 f, .int .i64 t, .int .i64 m]) (.agg #[.int .i64 f', .int .i64 t', .int .i64 m'])).run Tryz.prog w = r
  intro h
  cases r with
  | ok b w' =>
    simp [Result.andThen] at h ⊢
    obtain ⟨h1, h2⟩ := h
    subst h1; subst h2
    simp
  | _ => simp [Result.andThen] at h

set_option maxRecDepth 100000 in
set_option maxHeartbeats 4000000 in
theorem same_any (n n2 : Int) (a a2 : Option Addr) (m m2 cap cap2 : Nat) (L L2 : List Ch.Lk) (hm : Hid (L.length = m)) (hm2 : Hid (L2.length = m2)) (hm9 : m ≤ 1000) (R : Bool) (hR : Hid ((n = n2 ∧ L = L2) ↔ R = true)) (w : World) (hL : Hid (LksAt w a L)) (hL2 : Hid (LksAt w a2 L2)) :
    Calls Tryz.prog 12 #[sysV n a m cap, sysV n2 a2 m2 cap2] w fun e w' => e = .returned (.bool R) ∧ Below w.heap.size w w' := by
  unfold sysV
  by_cases h1 : n = n2
  · have g1 : (n != n2) = false := by rw [h1]; simp
    by_cases h2 : m = m2
    · subst h2
      have g2 : ((m : Int) != (m : Int)) = false := by simp
      subst h1
      go_enter Tryz.func12, Tryz.ntmps12
      go_wp2
      go_loopw [5] (fun i wr => ∃ k : Nat, k ≤ m ∧ i = .int .i64 k ∧ wr.cell? ⟨w.heap.size, 1, none⟩ = some (.slice a m cap) ∧ wr.cell? ⟨w.heap.size + 1, 1, none⟩ = some (.slice a2 m cap2) ∧ Hid (Below w.heap.size w wr) ∧ Hid (∀ j, j < k → L.getD j Ch.noLk = L2.getD j Ch.noLk)) (fun i _ => m - (RowKit.intOf i).toNat)
      case atStart => exact ⟨0, Nat.zero_le _, rfl, by simp [go_sem], by simp [go_sem], Lib.hid (by repeat (first | with_reducible exact Below.refl _ _ | with_reducible assumption | refine below_drewN ?_ _ | refine Below.drew ?_ | refine Below.alloc ?_ (by first | (simp; done) | (simp; omega) | omega) _ | refine Below.setCell ?_ (by first | (simp; done) | (simp; omega) | omega) _ | refine Below.trans ?_ (Below.mono (by assumption) (by first | (simp; done) | (simp; omega) | omega)))), Lib.hid (fun j hj => by omega)⟩
      case round =>
        obtain ⟨k, hk, rfl, c0, c1, hb, hall⟩ := hrel
        by_cases hlt : k < m
        · obtain ⟨x, rfl, hl1⟩ := hL.out k (by have := hm.out; omega)
          obtain ⟨y, rfl, hl2⟩ := hL2.out k (by have := hm2.out; omega)
          have ⟨p0, p1, p2⟩ := hl1.below hb.out
          have ⟨q0, q1, q2⟩ := hl2.below hb.out
          have hi5 : (k : Int) < (m : Int) := by omega
          have hi6 : (0 : Int) ≤ (k : Int) := by omega
          obtain ⟨f, t, mo, hlk⟩ : ∃ f t mo, L.getD k Ch.noLk = ⟨f, t, mo⟩ := ⟨_, _, _, rfl⟩
          obtain ⟨f2, t2, mo2, hlk2⟩ : ∃ f t mo, L2.getD k Ch.noLk = ⟨f, t, mo⟩ := ⟨_, _, _, rfl⟩
          rw [hlk] at p0 p1 p2
          rw [hlk2] at q0 q1 q2
          simp only at p0 p1 p2 q0 q1 q2
          have hne := run_neq_lk f t mo f2 t2 mo2
          obtain ⟨sm, hsm⟩ : ∃ sm, Ch.sameLk ⟨f, t, mo⟩ ⟨f2, t2, mo2⟩ = sm := ⟨_, rfl⟩
          rw [hsm] at hne
          have hgd := lk_guard
          replace hlk := Lib.hid hlk
          replace hlk2 := Lib.hid hlk2
          replace hsm := Lib.hid hsm
          clear hl1 hl2
          go_upto_region 6 with fail
          go_quiet (fail)
          clear hne hgd
          cases sm
          · obtain rfl : false = R := by
              cases R with
              | false => rfl
              | true =>
                have h := (hR.out.2 rfl).2
                have h3 := hsm.out
                rw [h, hlk2.out] at hlk
                have h4 : (⟨f2, t2, mo2⟩ : Ch.Lk) = ⟨f, t, mo⟩ := hlk.out
                rw [h4, same_iff.2 rfl] at h3
                cases h3
            clear hR hall
            go_wp2
            go_ret
            exact ⟨rfl, below_drewN hb.out _⟩
          · have hall2 := Lib.hid (show ∀ j, j < k + 1 → L.getD j Ch.noLk = L2.getD j Ch.noLk from fun j hj => by
              by_cases e : j = k
              · subst e; rw [hlk.out, hlk2.out]; exact same_iff.1 hsm.out
              · exact hall.out j (by omega))
            clear hall
            go_wp2
            go_roundw
            case rel => exact ⟨k + 1, by omega, by go_num, c0, c1, Lib.hid (below_drewN hb.out _), hall2⟩
            case measure => show m - ((k : Int) + 1).toNat < m - (k : Int).toNat; omega
        · obtain rfl : k = m := by omega
          have hi5 : ¬ (k : Int) < (k : Int) := by omega
          obtain rfl : true = R := (hR.out.1 ⟨by first | rfl | trivial, lk_ext (by rw [hm.out, hm2.out]) (fun j hj => hall.out j (by have := hm.out; omega))⟩).symm
          clear hR hall
          go_wp2
          go_ret
          exact ⟨rfl, hb.out⟩
    · have g2 : ((m : Int) != (m2 : Int)) = true := by rw [bne_iff_ne]; omega
      obtain rfl : false = R := by
        cases R with
        | false => rfl
        | true =>
          have h := (hR.out.2 rfl).2
          have := hm.out; have := hm2.out; rw [h] at *; omega
      clear hR
      subst h1
      go_enter Tryz.func12, Tryz.ntmps12
      go_wp2
      go_ret
      exact ⟨rfl, (by repeat (first | with_reducible exact Below.refl _ _ | with_reducible assumption | refine below_drewN ?_ _ | refine Below.drew ?_ | refine Below.alloc ?_ (by first | (simp; done) | (simp; omega) | omega) _ | refine Below.setCell ?_ (by first | (simp; done) | (simp; omega) | omega) _ | refine Below.trans ?_ (Below.mono (by assumption) (by first | (simp; done) | (simp; omega) | omega))))⟩
  · have g1 : (n != n2) = true := by rw [bne_iff_ne]; exact h1
    obtain rfl : false = R := by
      cases R with
      | false => rfl
      | true => exact absurd (hR.out.2 rfl).1 h1
    clear hR
    go_enter Tryz.func12, Tryz.ntmps12
    go_wp2
    go_ret
    exact ⟨rfl, (by repeat (first | with_reducible exact Below.refl _ _ | with_reducible assumption | refine below_drewN ?_ _ | refine Below.drew ?_ | refine Below.alloc ?_ (by first | (simp; done) | (simp; omega) | omega) _ | refine Below.setCell ?_ (by first | (simp; done) | (simp; omega) | omega) _ | refine Below.trans ?_ (Below.mono (by assumption) (by first | (simp; done) | (simp; omega) | omega))))⟩
end Go.Proofs.YtemacokojdeimaaGreatDoor
