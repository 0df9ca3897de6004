/- Contracts of the specification of layer 3: Listed. -/
import Derived.Test.YtmkjmpkicmadcaaDoorZJu
import Derived.Test.YtmkjmpkicmadcaaDoorZ13
set_option linter.unusedSimpArgs false
set_option linter.unusedVariables false
namespace Pl
def inS (q : Nat) (g : Int) : Bool := decide (-(q : Int) ≤ g ∧ g ≤ (q : Int) - 1)
def lsd (q : Nat) (l : List Int) : Int := if 96 < l.length then 2 else if l.all (inS q) then 0 else 1
end Pl
namespace Go.Proofs.YtmkjmpkicmadcaaDoor
open Go.RowKit

set_option maxRecDepth 100000 in
set_option maxHeartbeats 4000000 in
theorem rListed_any (s m : Int) (a : Option Addr) (q cap : Nat) (hq2 : q ≤ 16) (x : Option Addr) (n c : Nat) (l : List Int) (hn : Hid (l.length = n)) (w : World) (hl : Hid (NsAt w x l)) :
    Calls Tryd.prog 17 #[.agg #[.int .i64 s, .int .i64 m, .slice a q cap], .slice x n c] w fun e w' => e = .returned (.int .i64 (Pl.lsd q l)) ∧ Below w.heap.size w w' := by
  unfold Pl.lsd
  rw [hn.out]
  by_cases h96 : 96 < n
  · have h97 : (96 : Int) < (n : Int) := by omega
    rw [if_pos h96]
    go_enter Tryd.func17, Tryd.ntmps17
    go_wp2
    go_ret
    exact ⟨rfl, (by repeat (first | with_reducible exact Below.refl _ _ | with_reducible assumption | refine below_drewN ?_ _ | refine Below.drew ?_ | refine Below.alloc ?_ (by first | (simp; done) | (simp; omega) | omega) _ | refine Below.setCell ?_ (by first | (simp; done) | (simp; omega) | omega) _ | refine Below.trans ?_ (Below.mono (by assumption) (by first | (simp; done) | (simp; omega) | omega))))⟩
  · have h97 : ¬ (96 : Int) < (n : Int) := by omega
    have h98 : (n : Int) ≤ 96 := by omega
    rw [if_neg h96]
    obtain ⟨R, hR⟩ : ∃ R : Int, (if l.all (Pl.inS q) then 0 else 1) = R := ⟨_, rfl⟩
    rw [hR]
    replace hR : Hid (R = if (l.drop 0).all (Pl.inS q) then 0 else 1) := Lib.hid hR.symm
    go_enter Tryd.func17, Tryd.ntmps17
    go_wp2
    have k2 : (w.alloc (Obj.cells #[.int .i64 s, .int .i64 m, .slice a q cap] 34)).cell? ⟨w.heap.size, 2, none⟩ = some (.slice a q cap) := by simp [go_sem]
    have hbw : Below w.heap.size w (w.alloc (Obj.cells #[.int .i64 s, .int .i64 m, .slice a q cap] 34)) := below_alloc (Below.refl _ _) _
    generalize w.alloc (Obj.cells #[.int .i64 s, .int .i64 m, .slice a q cap] 34) = X at *
    go_loopw [5] (fun i wr => ∃ k : Nat, k ≤ n ∧ i = .int .i64 k ∧ wr.cell? ⟨w.heap.size, 2, none⟩ = some (.slice a q cap) ∧ Below w.heap.size w wr ∧ Hid (R = if (l.drop k).all (Pl.inS q) then 0 else 1)) (fun i _ => n - (RowKit.intOf i).toNat)
    case atStart => exact ⟨0, Nat.zero_le _, rfl, k2, hbw, hR⟩
    case round =>
      clear hbw k2 hR
      clear X
      obtain ⟨k, hk, rfl, k2, hb, hfo⟩ := hrel
      by_cases hlt : k < n
      · have hkl : k < l.length := by have := hn.out; omega
        obtain ⟨x', rfl, hcx⟩ := hl.out k hkl
        have hc0 := (hb.cell (block_lt_of_cell hcx)).trans hcx
        have hst := hfo.out
        rw [drop_at hkl, List.all_cons] at hst
        obtain ⟨g, hg⟩ : ∃ g, l.getD k 0 = g := ⟨_, rfl⟩
        rw [hg] at hst hc0
        have HX := rIn_any g (-(q : Int)) ((q : Int) - 1)
        have hi5 : (k : Int) < (n : Int) := by omega
        have hi6 : (0 : Int) ≤ (k : Int) := by omega
        have hq5 : (q : Int) ≤ 16 := by omega
        have w1 : IntKind.i64.wrap (-(q : Int)) = -(q : Int) := by rw [IntWalk.i64_left]; exact IntWalk.wrap64_in _ (by omega)
        have w2 : IntKind.i64.wrap ((q : Int) - 1) = (q : Int) - 1 := by rw [IntWalk.i64_left]; exact IntWalk.wrap64_in _ (by omega)
        have S0 : wr.drew.cell? ⟨w.heap.size, 2, none⟩ = some (.slice a q cap) ∧ wr.drew.cell? (x'.add k) = some (.int .i64 g) ∧ Below w.heap.size w wr.drew := ⟨k2, hc0, hb.drew⟩
        cases ho : Pl.inS q g
        · have hst2 : R = 1 := by rw [hst, ho]; rfl
          rw [show decide (-(q : Int) ≤ g ∧ g ≤ (q : Int) - 1) = false from ho] at HX
          rw [← w1, ← w2] at HX
          clear w1 w2
          replace HX := Lib.hid HX
          clear hst hfo hcx hg ho
          subst hst2
          go_upto_region 6 with fail
          go_region_held3 (fun w' => w'.cell? ⟨w.heap.size, 2, none⟩ = some (.slice a q cap) ∧ w'.cell? (x'.add k) = some (.int .i64 g) ∧ Below w.heap.size w w')
            (first | with_reducible exact S0 | with_reducible assumption)
            (first
              | (with_reducible refine (HX.out _).mono ?_
                 rintro e wp ⟨he, hbp⟩
                 subst he
                 subst hbp))
          all_goals go_wp2
          all_goals go_ret
          all_goals exact ⟨rfl, S0.2.2⟩
        · have hst2 : Hid (R = if (l.drop (k + 1)).all (Pl.inS q) then 0 else 1) := Lib.hid (by rw [hst, ho]; rfl)
          rw [show decide (-(q : Int) ≤ g ∧ g ≤ (q : Int) - 1) = true from ho] at HX
          rw [← w1, ← w2] at HX
          clear w1 w2
          replace HX := Lib.hid HX
          clear hst hfo hcx hg ho
          go_upto_region 6 with fail
          go_region_held3 (fun w' => w'.cell? ⟨w.heap.size, 2, none⟩ = some (.slice a q cap) ∧ w'.cell? (x'.add k) = some (.int .i64 g) ∧ Below w.heap.size w w')
            (first | with_reducible exact S0 | with_reducible assumption)
            (first
              | (with_reducible refine (HX.out _).mono ?_
                 rintro e wp ⟨he, hbp⟩
                 subst he
                 subst hbp))
          all_goals go_wp2
          all_goals go_roundw
          case rel => exact ⟨k + 1, by omega, by go_num, S0.1, S0.2.2, hst2⟩
          case measure => first | (simp [RowKit.intOf]; done) | (simp [RowKit.intOf]; omega) | omega
      · obtain rfl : k = n := by omega
        have hi5 : ¬ (k : Int) < (k : Int) := by omega
        have hst2 : R = 0 := by
          rw [hfo.out, List.drop_eq_nil_of_le (by have := hn.out; omega)]
          rfl
        clear hfo
        subst hst2
        go_wp2
        go_ret
        exact ⟨rfl, hb⟩
end Go.Proofs.YtmkjmpkicmadcaaDoor
