/- Contracts of the specification: SameTable, at two tables of as many rows. -/
import Derived.Test.YtkcchangkhklcaaZQa
import Derived.Test.YtkcchangkhklcaaZ06
import Derived.Deep.RegionHeld3
set_option linter.unusedSimpArgs false
set_option linter.unusedVariables false
namespace Go.Proofs.Ytkcchangkhklcaa
open Go.RowKit

theorem row_list {W : World} {sb N : Nat} {f : Nat → Int} (h : W.rowIs sb 3 N (fun j => .int .i64 (f j))) : IntsAt W (some ⟨sb, 0, none⟩) ((List.range N).map f) :=
  ints_of_row h (fun i hi => by rw [List.getD, List.getElem?_map, List.getElem?_range hi]; rfl) (by simp)
theorem range_eq {N : Nat} {f g : Nat → Int} : (List.range N).map f = (List.range N).map g ↔ ∀ i, i < N → f i = g i := by
  rw [List.map_inj_left]
  exact ⟨fun h i hi => h i (List.mem_range.2 hi), fun h i hi => h i (List.mem_range.1 hi)⟩

set_option maxRecDepth 100000 in
set_option maxHeartbeats 4000000 in
theorem sameTable_two (N ob ob2 ca cb : Nat) (R1 R2 : Nat → Nat) (hN : N ≤ 1000) (D E : Nat → Nat → Int) (r : Bool) (hr : Hid ((∀ u, u < N → ∀ v, v < N → D u v = E u v) ↔ r = true)) (w : World) (h1 : Hid (TB2 N ob R1 D w)) (h2 : Hid (TB2 N ob2 R2 E w)) :
    Calls Try.prog 28 #[.slice (some ⟨ob, 0, none⟩) N ca, .slice (some ⟨ob2, 0, none⟩) N cb] w fun e w' => e = .returned (.bool r) ∧ Below w.heap.size w w' := by
  have g1 : ((N : Int) != (N : Int)) = false := by simp
  go_enter Try.func28, Try.ntmps28
  go_wp2
  go_loopw [5] (fun i wr => ∃ k : Nat, k ≤ N ∧ i = .int .i64 k ∧ Hid (TB2 N ob R1 D wr) ∧ Hid (TB2 N ob2 R2 E wr) ∧ Hid (Below w.heap.size w wr) ∧ Hid (∀ u, u < k → ∀ v, v < N → D u v = E u v)) (fun i _ => N - (RowKit.intOf i).toNat)
  case atStart => exact ⟨0, Nat.zero_le _, rfl, h1, h2, Lib.hid (Below.refl _ _), Lib.hid fun u hu => by omega⟩
  case round =>
    clear h1 h2
    obtain ⟨k, hk, rfl, h1, h2, hB, hsm⟩ := hrel
    by_cases hlt : k < N
    · have hi5 : (k : Int) < (N : Int) := by omega
      have hi6 : (0 : Int) ≤ (k : Int) := by omega
      have r1 := h1.out.o k hlt
      have r2 := h2.out.o k hlt
      obtain ⟨b, hb9⟩ : ∃ b, decide ((List.range N).map (D k) = (List.range N).map (E k)) = b := ⟨_, rfl⟩
      have hlen : ((List.range N).map (D k)).length = N := by simp
      have HS := sameInts_any (some ⟨R1 k, 0, none⟩) (some ⟨R2 k, 0, none⟩) N N _ _ (by omega) wr.drew (row_list (h1.out.r k hlt).drew) (row_list (h2.out.r k hlt).drew)
      have hlen2 : ((List.range N).map (E k)).length = N := by simp
      rw [hlen, hlen2, hb9] at HS
      replace HS := Lib.hid HS
      replace hb9 := Lib.hid hb9
      have T1 := Lib.hid fun (W : World) (hb : Below wr.drew.heap.size wr.drew W) => h1.out.below (Below.trans (Below.refl wr.heap.size wr).drew hb)
      have T2 := Lib.hid fun (W : World) (hb : Below wr.drew.heap.size wr.drew W) => h2.out.below (Below.trans (Below.refl wr.heap.size wr).drew hb)
      have T3 := Lib.hid fun (W : World) (hb : Below wr.drew.heap.size wr.drew W) => hB.out.trans ((Below.trans (Below.refl wr.heap.size wr).drew hb).mono hB.out.size)
      have S0' : wr.drew.cell? ⟨ob, k, none⟩ = some (.slice (some ⟨R1 k, 0, none⟩) N N) ∧ wr.drew.cell? ⟨ob2, k, none⟩ = some (.slice (some ⟨R2 k, 0, none⟩) N N) := ⟨r1, r2⟩
      clear r1 r2 hlen hlen2 h1 h2 hB
      go_upto_region 6 with fail
      go_region_held3 (fun w' => w'.cell? ⟨ob, k, none⟩ = some (.slice (some ⟨R1 k, 0, none⟩) N N) ∧ w'.cell? ⟨ob2, k, none⟩ = some (.slice (some ⟨R2 k, 0, none⟩) N N))
        (first | with_reducible exact S0' | with_reducible exact keepY (by assumption) hbp)
        (first
        | (go_at_call 16
           with_reducible refine HS.out.mono ?_
           rintro e wp1 ⟨he, hbp⟩
           subst he
           skip))
      have h1 := Lib.hid (T1.out _ hbp)
      have h2 := Lib.hid (T2.out _ hbp)
      have hB := Lib.hid (T3.out _ hbp)
      clear hbp T1 T2 T3
      cases b
      · obtain rfl : false = r := by
          cases r
          · rfl
          · exact absurd (range_eq.2 (hr.out.2 rfl k hlt)) (of_decide_eq_false hb9.out)
        clear hr hsm hb9
        go_wp2
        go_ret
        exact ⟨rfl, hB.out⟩
      · have hsm2 : Hid (∀ u, u < k + 1 → ∀ v, v < N → D u v = E u v) := Lib.hid fun u hu v hv => by
          by_cases e : u = k
          · subst e; exact range_eq.1 (of_decide_eq_true hb9.out) v hv
          · exact hsm.out u (by omega) v hv
        clear hsm hb9
        go_wp2
        go_roundw
        case rel => exact ⟨k + 1, by omega, by go_num, h1, h2, hB, hsm2⟩
        case measure => show N - ((k : Int) + 1).toNat < N - (k : Int).toNat; omega
    · obtain rfl : k = N := by omega
      have hi5 : ¬ (k : Int) < (k : Int) := by omega
      obtain rfl : true = r := (hr.out.1 hsm.out).symm
      clear hr hsm
      go_wp2
      go_ret
      exact ⟨rfl, hB.out⟩
end Go.Proofs.Ytkcchangkhklcaa
