/- The law ChainMatters: what its walks share. -/
import Derived.Test.YtkcchangkhklcaaZQm
import Derived.Test.YtkcchangkhklcaaZMRcYl
import Derived.Test.YtkcchangkhklcaaZ06
import Derived.BigQuiet
set_option linter.unusedSimpArgs false
set_option linter.unusedVariables false
namespace Go.Proofs.Ytkcchangkhklcaa
open Go.RowKit

theorem slack_out {n : Int} {L : List Ch.Lk} {k : Nat} {q : Int} (hc : (Ch.check n L).1 = 0) (hq : Ch.isIx q L.length = false) : Ch.slack n L k q = (0, 1) := by
  unfold Ch.slack
  rw [if_neg (fun h => h hc), if_pos hq]
theorem opn_pair {n : Int} {L : List Ch.Lk} {k : Nat} {u v : Int} (hc : (Ch.check n L).1 = 0) (hu : Ch.isIx u n = true) (hv : Ch.isIx v n = true) : Ch.opn n L [u, v] k = Ch.opn n L [] k := by
  rw [Ch.opn_nil hc]
  unfold Ch.opn Ch.openE
  rw [if_neg (fun h => h hc), if_pos (by simp [hu, hv])]
theorem lk_ix {n : Int} {L : List Ch.Lk} (hc : (Ch.check n L).1 = 0) {i : Nat} (hi : i < L.length) : Ch.isIx (L.getD i Ch.noLk).t n = true ∧ Ch.isIx (L.getD i Ch.noLk).f n = true := by
  obtain ⟨_, _, _, hok⟩ := Ch.check_ok hc
  have := Ch.okLk_spec (hok i hi)
  generalize L.getD i Ch.noLk = l at this ⊢
  constructor <;> simp [Ch.isIx] <;> omega
theorem slack_bad {n : Int} {L : List Ch.Lk} {k i : Nat} (hc : (Ch.check n L).1 = 0) (hi : i < L.length) (ho : Ch.opn n L [] k ≠ 0) : Ch.slack n L k (i : Int) = (0, Ch.opn n L [] k) := by
  obtain ⟨h1, h2⟩ := lk_ix hc hi
  have hb : Ch.bound n L k (L.getD i Ch.noLk).t (L.getD i Ch.noLk).f = (0, Ch.opn n L [] k) := by
    unfold Ch.bound
    rw [opn_pair hc h1 h2, if_pos ho]
  have hx : Ch.isIx (i : Int) L.length = true := by simp [Ch.isIx]; omega
  unfold Ch.slack
  rw [if_neg (fun h => h hc), if_neg (by rw [hx]; simp), show ((i : Int)).toNat = i from rfl, hb, if_pos ho]
theorem slack_free {n : Int} {L : List Ch.Lk} {k i : Nat} (hc : (Ch.check n L).1 = 0) (hi : i < L.length) (ho : Ch.opn n L [] k = 0) (hf : Ch.tb n L k (L.getD i Ch.noLk).t.toNat (L.getD i Ch.noLk).f.toNat = 1152921504606846976) : Ch.slack n L k (i : Int) = (0, 5) := by
  obtain ⟨h1, h2⟩ := lk_ix hc hi
  have hf' : (Ch.bt n.toNat L [] k (L.getD i Ch.noLk).f.toNat).getD (L.getD i Ch.noLk).t.toNat 0 = Ch.free := hf
  have hb : Ch.bound n L k (L.getD i Ch.noLk).t (L.getD i Ch.noLk).f = (0, 5) := by
    unfold Ch.bound
    rw [opn_pair hc h1 h2, if_neg (fun h => h ho), if_pos hf']
  have hx : Ch.isIx (i : Int) L.length = true := by simp [Ch.isIx]; omega
  unfold Ch.slack
  rw [if_neg (fun h => h hc), if_neg (by rw [hx]; simp), show ((i : Int)).toNat = i from rfl, hb, if_pos (by simp)]
theorem slack_ok {n : Int} {L : List Ch.Lk} {k i : Nat} (hc : (Ch.check n L).1 = 0) (hi : i < L.length) (ho : Ch.opn n L [] k = 0) (hf : ¬ Ch.tb n L k (L.getD i Ch.noLk).t.toNat (L.getD i Ch.noLk).f.toNat = 1152921504606846976) : Ch.slack n L k (i : Int) = (Ch.tb n L k (L.getD i Ch.noLk).t.toNat (L.getD i Ch.noLk).f.toNat + (L.getD i Ch.noLk).m, 0) := by
  obtain ⟨h1, h2⟩ := lk_ix hc hi
  have hf' : ¬ (Ch.bt n.toNat L [] k (L.getD i Ch.noLk).f.toNat).getD (L.getD i Ch.noLk).t.toNat 0 = Ch.free := hf
  have hb : Ch.bound n L k (L.getD i Ch.noLk).t (L.getD i Ch.noLk).f = (Ch.tb n L k (L.getD i Ch.noLk).t.toNat (L.getD i Ch.noLk).f.toNat, 0) := by
    unfold Ch.bound
    rw [opn_pair hc h1 h2, if_neg (fun h => h ho), if_neg hf']
    rfl
  have hx : Ch.isIx (i : Int) L.length = true := by simp [Ch.isIx]; omega
  unfold Ch.slack
  rw [if_neg (fun h => h hc), if_neg (by rw [hx]; simp), show ((i : Int)).toNat = i from rfl, hb, if_neg (by simp)]
theorem ea_levels {n : Int} {L : List Ch.Lk} {k : Nat} (h : Ch.EA n L k) : (Ch.check n L).1 = 0 → ∀ i, i < L.length → ∃ R, Ch.levels n.toNat L ((Ch.none' L.length).set i true) k = some R := fun hc i _ => by
  obtain ⟨R, hR, _⟩ := Ch.enough_levels (h.e hc ((Ch.none' L.length).set i true)).1
  exact ⟨R, hR⟩

theorem sameInts_same (ls : List Nat) (hl : ls.length ≤ 1000) (x y : Option Addr) (c1 c2 : Nat) (w : World) (hx : IntsAt w x (Ch.ints ls)) (hy : IntsAt w y (Ch.ints ls)) :
    Calls Try.prog 16 #[.slice x ls.length c1, .slice y ls.length c2] w fun e w' => e = .returned (.bool true) ∧ Below w.heap.size w w' := by
  have h := sameInts_any x y c1 c2 (Ch.ints ls) (Ch.ints ls) (by rw [Ch.ints_len]; omega) w hx hy
  rw [decide_eq_true rfl, Ch.ints_len] at h
  exact h
theorem sameInts_nil (x y : Option Addr) (c1 c2 : Nat) (w : World) :
    Calls Try.prog 16 #[.slice x 0 c1, .slice y 0 c2] w fun e w' => e = .returned (.bool true) ∧ Below w.heap.size w w' :=
  sameInts_same [] (Nat.zero_le _) x y c1 c2 w (fun k h => absurd h (Nat.not_lt_zero k)) (fun k h => absurd h (Nat.not_lt_zero k))
theorem ints_of_own0 {W : World} {B : Nat} {v : Value} (h : W.ownsRow B 3 1 v ([] : List Nat).length (([] : List Nat).map fun i : Nat => Value.int .i64 (i : Int))) : ∃ p cp, v = .slice p 0 cp ∧ IntsAt W p (Ch.ints []) ∧ True := by
  obtain ⟨p, cp, h1, h2, _⟩ := ints_of_own h
  exact ⟨p, cp, h1, h2, trivial⟩

set_option linter.unusedSimpArgs false in
set_option maxRecDepth 100000 in
set_option maxHeartbeats 16000000 in
theorem rsuspects_yes (n : Int) (a : Option Addr) (m cap : Nat) (L : List Ch.Lk) (hm : Hid (L.length = m)) (hck : (Ch.check n L).1 = 0) (hyes : ∃ σ, Ch.Sol L [] σ) (w : World) (hL : Hid (LksAt w a L)) :
    Calls Try.prog 35 #[sysV n a m cap] w (RwlPost w []) := by
  have HTi := Lib.hid fun (W : World) (h : SB w n a m cap L W) => rtight_any n a m cap L hm hck W (Lib.hid h.l)
  replace hyes := Lib.hid hyes
  unfold sysV at *
  clear hck
  have hJ := Lib.hid (SB.mk (w := w) (n := n) (a := a) (m := m) (cap := cap) (W := w.alloc (Obj.cells #[.int .i64 n, .slice a m cap] 24)) (by simp [go_sem]) (by simp [go_sem]) (hL.out.below (below_alloc (Below.refl _ _) _)) (below_alloc (Below.refl _ _) _))
  clear hL
  go_enter Try.func35, Try.ntmps35
  go_wp2_with fail
  refine (HTi.out _ hJ.out).mono ?_
  rintro e w2 ⟨hb, h⟩
  obtain ⟨_, ob, dc, R2, rfl, ht⟩ := h.resolve_left (fun h => h.1 hyes.out)
  have hB := hJ.out.b.trans (hb.mono hJ.out.b.size)
  clear hb h ht HTi hJ hyes
  go_wp2
  go_ret
  exact ⟨_, rfl, World.ownsRow_nil _ _ _ _, hB⟩
end Go.Proofs.Ytkcchangkhklcaa
