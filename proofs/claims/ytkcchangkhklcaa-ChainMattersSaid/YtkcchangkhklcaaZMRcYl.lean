/- Several texts one behind the other. -/
import Derived.Test.YtkcchangkhklcaaZ06
import Derived.Test.YtkcchangkhklcaaRows
import Derived.ProofKit
import Derived.WalkKit
import Derived.OpenShut
import Derived.ShutString
import Derived.ChangeOld
import Derived.Below
import Derived.Lib.SmallJoins
import Derived.Deep.Slices
import Derived.Deep.Strs
import Derived.Test.YtkcchangkhklcaaZMYsQa
set_option linter.unusedSimpArgs false
set_option linter.unusedVariables false
/- Contracts of the specification: Check. -/
namespace Go.Proofs.Ytkcchangkhklcaa
open Go.RowKit

theorem okLk_false {n : Int} {l : Ch.Lk} (h : l.f < 0 ∨ n ≤ l.f ∨ l.t < 0 ∨ n ≤ l.t ∨ l.f = l.t ∨ l.m < -4503599627370496 ∨ 4503599627370496 < l.m) : Ch.okLk n l = false := by
  cases hk : Ch.okLk n l
  · rfl
  · have := Ch.okLk_spec hk
    omega
theorem okLk_true {n : Int} {l : Ch.Lk} (h : 0 ≤ l.f ∧ l.f < n ∧ 0 ≤ l.t ∧ l.t < n ∧ l.f ≠ l.t ∧ -4503599627370496 ≤ l.m ∧ l.m ≤ 4503599627370496) : Ch.okLk n l = true := by
  unfold Ch.okLk Ch.isIx Ch.top
  simp
  omega

set_option maxRecDepth 100000 in
set_option maxHeartbeats 4000000 in
theorem rcheck_loop (n : Int) (a : Option Addr) (cap : Nat) (L : List Ch.Lk) (m : Nat) (hm : Hid (L.length = m)) (h0 : ¬ n < 1) (h1 : ¬ 60 < n) (h2 : ¬ (300 : Int) < (m : Int)) (w : World) (hL : Hid (LksAt w a L)) :
    Calls Try.prog 12 #[.agg #[.int .i64 n, .slice a m cap]] w fun e w' => e = .returned (.tuple #[.int .i64 (Ch.check n L).1, .int .i64 (Ch.check n L).2]) ∧ Below w.heap.size w w' := by
  have hm3 : m ≤ 300 := by omega
  obtain ⟨R, hR⟩ : ∃ R, Ch.check n L = R := ⟨_, rfl⟩
  rw [hR]
  replace hR := Lib.hid hR
  go_enter Try.func12, Try.ntmps12
  go_wp2
  go_loopw [4] (fun i wr => ∃ k : Nat, k ≤ m ∧ i = .int .i64 k ∧ wr.cell? ⟨w.heap.size, 0, none⟩ = some (.int .i64 n) ∧ wr.cell? ⟨w.heap.size, 1, none⟩ = some (.slice a m cap) ∧ Below w.heap.size w wr ∧ w.heap.size < wr.heap.size ∧ Hid (Ch.bad n L 0 = Ch.bad n (L.drop k) k)) (fun i _ => m - (RowKit.intOf i).toNat)
  case atStart => exact ⟨0, Nat.zero_le _, rfl, by simp [go_sem], by simp [go_sem], (by repeat (first | with_reducible exact Below.refl _ _ | with_reducible assumption | refine below_drewN ?_ _ | refine Below.drew ?_ | refine Below.alloc ?_ (by first | (simp; done) | (simp; omega) | omega) _ | refine Below.setCell ?_ (by first | (simp; done) | (simp; omega) | omega) _ | refine Below.trans ?_ (Below.mono (by assumption) (by first | (simp; done) | (simp; omega) | omega)))), by simp, Lib.hid rfl⟩
  case round =>
    obtain ⟨k, hk, rfl, hn, hs, hb, hsz, hbad⟩ := hrel
    by_cases hlt : k < m
    · obtain ⟨x, rfl, hl3⟩ := hL.out k (by have := hm.out; omega)
      obtain ⟨f, t, mo, hl⟩ : ∃ f t mo, L.getD k Ch.noLk = ⟨f, t, mo⟩ := ⟨_, _, _, rfl⟩
      have ⟨hc0, hc1, hc2⟩ := hl3.below hb
      have hst := Ch.bad_step (n := n) (L := L) (k := k) (by have := hm.out; omega)
      rw [hl] at hc0 hc1 hc2 hst
      simp only at hc0 hc1 hc2
      have hF := Lib.hid (fun h => okLk_false (n := n) (l := ⟨f, t, mo⟩) h)
      have hT := Lib.hid (fun h => okLk_true (n := n) (l := ⟨f, t, mo⟩) h)
      replace hst := Lib.hid hst
      clear hl3 hl
      have hi5 : (k : Int) < (m : Int) := by omega
      by_cases c0 : f < 0
      · have hR2 : Hid (R = (1, (k : Int))) := Lib.hid (by rw [← hR.out, Ch.check_mid (by omega) (by omega) (by have := hm.out; omega), hbad.out, hst.out, hF.out (by simp only; omega)]; rfl)
        clear hbad hst hF hT
        go_wp2
        go_ret2
        exact ⟨by rw [hR2.out]; rfl, (by repeat (first | with_reducible exact Below.refl _ _ | with_reducible assumption | refine below_drewN ?_ _ | refine Below.drew ?_ | refine Below.alloc ?_ (by first | (simp; done) | (simp; omega) | omega) _ | refine Below.setCell ?_ (by first | (simp; done) | (simp; omega) | omega) _ | refine Below.trans ?_ (Below.mono (by assumption) (by first | (simp; done) | (simp; omega) | omega))))⟩
      by_cases c1 : n ≤ f
      · have hR2 : Hid (R = (1, (k : Int))) := Lib.hid (by rw [← hR.out, Ch.check_mid (by omega) (by omega) (by have := hm.out; omega), hbad.out, hst.out, hF.out (by simp only; omega)]; rfl)
        clear hbad hst hF hT
        go_wp2
        go_ret2
        exact ⟨by rw [hR2.out]; rfl, (by repeat (first | with_reducible exact Below.refl _ _ | with_reducible assumption | refine below_drewN ?_ _ | refine Below.drew ?_ | refine Below.alloc ?_ (by first | (simp; done) | (simp; omega) | omega) _ | refine Below.setCell ?_ (by first | (simp; done) | (simp; omega) | omega) _ | refine Below.trans ?_ (Below.mono (by assumption) (by first | (simp; done) | (simp; omega) | omega))))⟩
      by_cases c2 : t < 0
      · have hR2 : Hid (R = (1, (k : Int))) := Lib.hid (by rw [← hR.out, Ch.check_mid (by omega) (by omega) (by have := hm.out; omega), hbad.out, hst.out, hF.out (by simp only; omega)]; rfl)
        clear hbad hst hF hT
        go_wp2
        go_ret2
        exact ⟨by rw [hR2.out]; rfl, (by repeat (first | with_reducible exact Below.refl _ _ | with_reducible assumption | refine below_drewN ?_ _ | refine Below.drew ?_ | refine Below.alloc ?_ (by first | (simp; done) | (simp; omega) | omega) _ | refine Below.setCell ?_ (by first | (simp; done) | (simp; omega) | omega) _ | refine Below.trans ?_ (Below.mono (by assumption) (by first | (simp; done) | (simp; omega) | omega))))⟩
      by_cases c3 : n ≤ t
      · have hR2 : Hid (R = (1, (k : Int))) := Lib.hid (by rw [← hR.out, Ch.check_mid (by omega) (by omega) (by have := hm.out; omega), hbad.out, hst.out, hF.out (by simp only; omega)]; rfl)
        clear hbad hst hF hT
        go_wp2
        go_ret2
        exact ⟨by rw [hR2.out]; rfl, (by repeat (first | with_reducible exact Below.refl _ _ | with_reducible assumption | refine below_drewN ?_ _ | refine Below.drew ?_ | refine Below.alloc ?_ (by first | (simp; done) | (simp; omega) | omega) _ | refine Below.setCell ?_ (by first | (simp; done) | (simp; omega) | omega) _ | refine Below.trans ?_ (Below.mono (by assumption) (by first | (simp; done) | (simp; omega) | omega))))⟩
      by_cases c4 : f = t
      · have c9 : (f == t) = true := by rw [c4]; simp
        have hR2 : Hid (R = (1, (k : Int))) := Lib.hid (by rw [← hR.out, Ch.check_mid (by omega) (by omega) (by have := hm.out; omega), hbad.out, hst.out, hF.out (by simp only; omega)]; rfl)
        clear hbad hst hF hT
        go_wp2
        go_ret2
        exact ⟨by rw [hR2.out]; rfl, (by repeat (first | with_reducible exact Below.refl _ _ | with_reducible assumption | refine below_drewN ?_ _ | refine Below.drew ?_ | refine Below.alloc ?_ (by first | (simp; done) | (simp; omega) | omega) _ | refine Below.setCell ?_ (by first | (simp; done) | (simp; omega) | omega) _ | refine Below.trans ?_ (Below.mono (by assumption) (by first | (simp; done) | (simp; omega) | omega))))⟩
      have c9 : (f == t) = false := by rw [beq_eq_false_iff_ne]; exact c4
      by_cases c5 : mo < -4503599627370496
      · have hR2 : Hid (R = (1, (k : Int))) := Lib.hid (by rw [← hR.out, Ch.check_mid (by omega) (by omega) (by have := hm.out; omega), hbad.out, hst.out, hF.out (by simp only; omega)]; rfl)
        clear hbad hst hF hT
        go_wp2
        go_ret2
        exact ⟨by rw [hR2.out]; rfl, (by repeat (first | with_reducible exact Below.refl _ _ | with_reducible assumption | refine below_drewN ?_ _ | refine Below.drew ?_ | refine Below.alloc ?_ (by first | (simp; done) | (simp; omega) | omega) _ | refine Below.setCell ?_ (by first | (simp; done) | (simp; omega) | omega) _ | refine Below.trans ?_ (Below.mono (by assumption) (by first | (simp; done) | (simp; omega) | omega))))⟩
      by_cases c6 : 4503599627370496 < mo
      · have hR2 : Hid (R = (1, (k : Int))) := Lib.hid (by rw [← hR.out, Ch.check_mid (by omega) (by omega) (by have := hm.out; omega), hbad.out, hst.out, hF.out (by simp only; omega)]; rfl)
        clear hbad hst hF hT
        go_wp2
        go_ret2
        exact ⟨by rw [hR2.out]; rfl, (by repeat (first | with_reducible exact Below.refl _ _ | with_reducible assumption | refine below_drewN ?_ _ | refine Below.drew ?_ | refine Below.alloc ?_ (by first | (simp; done) | (simp; omega) | omega) _ | refine Below.setCell ?_ (by first | (simp; done) | (simp; omega) | omega) _ | refine Below.trans ?_ (Below.mono (by assumption) (by first | (simp; done) | (simp; omega) | omega))))⟩
      have hst2 : Hid (Ch.bad n (L.drop k) k = Ch.bad n (L.drop (k + 1)) (k + 1)) := Lib.hid (by rw [hst.out, hT.out (by simp only; omega)]; rfl)
      clear hst hF hT
      go_wp2
      go_roundw
      case rel => exact ⟨k + 1, by omega, by go_num, cell_alloc hn _, cell_alloc hs _, (by repeat (first | with_reducible exact Below.refl _ _ | with_reducible assumption | refine below_drewN ?_ _ | refine Below.drew ?_ | refine Below.alloc ?_ (by first | (simp; done) | (simp; omega) | omega) _ | refine Below.setCell ?_ (by first | (simp; done) | (simp; omega) | omega) _ | refine Below.trans ?_ (Below.mono (by assumption) (by first | (simp; done) | (simp; omega) | omega)))), by simp; omega, Lib.hid (by rw [hbad.out, hst2.out])⟩
      case measure => first | (simp [RowKit.intOf]; done) | (simp [RowKit.intOf]; omega) | omega
    · obtain rfl : k = m := by omega
      have hi5 : ¬ (k : Int) < (k : Int) := by omega
      have hR2 : Hid (R = (0, -1)) := Lib.hid (by rw [← hR.out, Ch.check_mid (by omega) (by omega) (by have := hm.out; omega), hbad.out, List.drop_eq_nil_of_le (by have := hm.out; omega)]; rfl)
      clear hbad
      go_wp2
      go_ret2
      exact ⟨by rw [hR2.out]; rfl, (by repeat (first | with_reducible exact Below.refl _ _ | with_reducible assumption | refine below_drewN ?_ _ | refine Below.drew ?_ | refine Below.alloc ?_ (by first | (simp; done) | (simp; omega) | omega) _ | refine Below.setCell ?_ (by first | (simp; done) | (simp; omega) | omega) _ | refine Below.trans ?_ (Below.mono (by assumption) (by first | (simp; done) | (simp; omega) | omega))))⟩

set_option maxHeartbeats 400000 in
theorem rcheck_low (n : Int) (a : Option Addr) (m cap : Nat) (h : n < 1) (w : World) :
    Calls Try.prog 12 #[.agg #[.int .i64 n, .slice a m cap]] w fun e w' => e = .returned (.tuple #[.int .i64 1, .int .i64 (-1)]) ∧ Below w.heap.size w w' := by
  go_enter Try.func12, Try.ntmps12
  go_wp2
  go_ret2
  exact ⟨rfl, (by repeat (first | with_reducible exact Below.refl _ _ | with_reducible assumption | refine below_drewN ?_ _ | refine Below.drew ?_ | refine Below.alloc ?_ (by first | (simp; done) | (simp; omega) | omega) _ | refine Below.setCell ?_ (by first | (simp; done) | (simp; omega) | omega) _ | refine Below.trans ?_ (Below.mono (by assumption) (by first | (simp; done) | (simp; omega) | omega))))⟩

set_option maxHeartbeats 400000 in
theorem rcheck_high (n : Int) (a : Option Addr) (m cap : Nat) (h : ¬ n < 1) (h2 : 60 < n) (w : World) :
    Calls Try.prog 12 #[.agg #[.int .i64 n, .slice a m cap]] w fun e w' => e = .returned (.tuple #[.int .i64 1, .int .i64 (-1)]) ∧ Below w.heap.size w w' := by
  go_enter Try.func12, Try.ntmps12
  go_wp2
  go_ret2
  exact ⟨rfl, (by repeat (first | with_reducible exact Below.refl _ _ | with_reducible assumption | refine below_drewN ?_ _ | refine Below.drew ?_ | refine Below.alloc ?_ (by first | (simp; done) | (simp; omega) | omega) _ | refine Below.setCell ?_ (by first | (simp; done) | (simp; omega) | omega) _ | refine Below.trans ?_ (Below.mono (by assumption) (by first | (simp; done) | (simp; omega) | omega))))⟩

set_option maxHeartbeats 400000 in
theorem rcheck_long (n : Int) (a : Option Addr) (m cap : Nat) (h0 : ¬ n < 1) (h1 : ¬ 60 < n) (h2 : (300 : Int) < (m : Int)) (w : World) :
    Calls Try.prog 12 #[.agg #[.int .i64 n, .slice a m cap]] w fun e w' => e = .returned (.tuple #[.int .i64 2, .int .i64 (-1)]) ∧ Below w.heap.size w w' := by
  go_enter Try.func12, Try.ntmps12
  go_wp2
  go_ret2
  exact ⟨rfl, (by repeat (first | with_reducible exact Below.refl _ _ | with_reducible assumption | refine below_drewN ?_ _ | refine Below.drew ?_ | refine Below.alloc ?_ (by first | (simp; done) | (simp; omega) | omega) _ | refine Below.setCell ?_ (by first | (simp; done) | (simp; omega) | omega) _ | refine Below.trans ?_ (Below.mono (by assumption) (by first | (simp; done) | (simp; omega) | omega))))⟩

/-- the specification's Check -/
theorem rcheck_any (n : Int) (a : Option Addr) (cap : Nat) (L : List Ch.Lk) (w : World) (hL : LksAt w a L) :
    Calls Try.prog 12 #[sysV n a L.length cap] w fun e w' => e = .returned (.tuple #[.int .i64 (Ch.check n L).1, .int .i64 (Ch.check n L).2]) ∧ Below w.heap.size w w' := by
  by_cases h : n < 1
  · rw [Ch.check_n (.inl h)]; exact rcheck_low n a _ cap h w
  by_cases h1 : 60 < n
  · rw [Ch.check_n (.inr h1)]; exact rcheck_high n a _ cap h h1 w
  by_cases h2 : 300 < L.length
  · rw [Ch.check_l (by omega) h2]; exact rcheck_long n a _ cap h h1 (by omega) w
  exact rcheck_loop n a cap L _ (Lib.hid rfl) h h1 (by omega) w (Lib.hid hL)

theorem rerror_any (n : Int) (a : Option Addr) (cap : Nat) (L : List Ch.Lk) (w : World) (hL : LksAt w a L) :
    Calls Try.prog 34 #[.agg #[.int .i64 n, .slice a L.length cap]] w fun e w' => e = .returned (.int .i64 (Ch.check n L).1) ∧ Below w.heap.size w w' := by
  have HC := Lib.hid fun (W : World) (hb : Below w.heap.size w W) => rcheck_any n a cap L W (hL.below hb)
  unfold sysV at HC
  generalize Ch.check n L = R at *
  generalize L.length = m at *
  clear hL
  obtain ⟨e1, e2⟩ := R
  go_enter Try.func34, Try.ntmps34
  go_wp2_with fail
  refine (HC.out _ (below_alloc (Below.refl _ _) _)).mono ?_
  rintro e w1 ⟨rfl, hb1⟩
  go_wp2
  go_ret
  exact ⟨rfl, (by repeat (first | with_reducible exact Below.refl _ _ | with_reducible assumption | refine below_drewN ?_ _ | refine Below.drew ?_ | refine Below.alloc ?_ (by first | (simp; done) | (simp; omega) | omega) _ | refine Below.setCell ?_ (by first | (simp; done) | (simp; omega) | omega) _ | refine Below.trans ?_ (Below.mono (by assumption) (by first | (simp; done) | (simp; omega) | omega))))⟩
end Go.Proofs.Ytkcchangkhklcaa

/- What the claims of layer 2 share: how an argument that came in is opened. -/
namespace Go.Proofs.Ytkcchangkhklcaa
open Go.ChangeShapes Go.WideShapes Go.ChangeAt Go.RowKit Go.Joins Go.Deep
open Go.ChangeMaps (open_string shut_string)
set_option maxRecDepth 100000

theorem lawOwn : ownKnob Try.prog.godebug = none := by kernel_rfl
theorem lawLaidOut : laidOutB Try.prog = true := by kernel_rfl

/-- a number that int holds -/
def I64 (a : Int) : Prop := -9223372036854775808 ≤ a ∧ a ≤ 9223372036854775807
theorem i64_of_wf {a : Int} (h : (Lit.int .i64 a).wf = true) : I64 a := by
  have e1 : IntKind.i64.min = -9223372036854775808 := rfl
  have e2 : IntKind.i64.max = 9223372036854775807 := rfl
  simp [Lit.wf, e1, e2] at h
  exact h
def I64l (l : Ch.Lk) : Prop := I64 l.f ∧ I64 l.t ∧ I64 l.m

variable {H : Type} {enc : TypeId × Value → H} {W : World} {base : Nat} {v : Value} {d : DataW H} {p : List MemPlace}

theorem open_i64 (hv : Value.okWide Try.prog W .any base 3 v) (h : DataW.Trod enc Try.prog W 0 (fun _ => true) true 3 v d p) : ∃ a : Int, v = .int .i64 a ∧ I64 a := by
  obtain ⟨a, rfl, _, _, wa⟩ := open_int Try.underlying3 hv h
  exact ⟨a, rfl, i64_of_wf wa⟩

theorem cells_int : Try.prog.cellsOf 3 = 1 := by kernel_rfl
theorem cells_lks : Try.prog.cellsOf 22 = 1 := by kernel_rfl
theorem cells_link : Try.prog.cellsOf 58 = 3 := by kernel_rfl
theorem cells_sys : Try.prog.cellsOf 24 = 2 := by kernel_rfl

/-- a list out of what is known at each place -/
theorem list_of {α : Type} (z : α) (P : Nat → α → Prop) : ∀ (m : Nat), (∀ i, i < m → ∃ x, P i x) → ∃ L : List α, L.length = m ∧ ∀ i, i < m → P i (L.getD i z)
  | 0, _ => ⟨[], rfl, fun i h => by omega⟩
  | m + 1, h => by
    obtain ⟨L, h1, h2⟩ := list_of z P m (fun i hi => h i (by omega))
    obtain ⟨x, hx⟩ := h m (by omega)
    refine ⟨L ++ [x], by simp [h1], fun i hi => ?_⟩
    by_cases e : i < m
    · have e2 : (L ++ [x]).getD i z = L.getD i z := by rw [List.getD, List.getD, List.getElem?_append_left (by omega)]
      rw [e2]; exact h2 i e
    · obtain rfl : i = m := by omega
      have e2 : (L ++ [x]).getD i z = x := by rw [List.getD, List.getElem?_append_right (by omega), h1, Nat.sub_self]; rfl
      rw [e2]; exact hx

theorem trod_lks {n : Nat} {c : Value} {y : DataW H × List MemPlace} (h : DataW.trod enc Try.prog W 0 (fun _ => true) true n 22 [c] = some y) :
    ∃ a len cap, c = .slice a len cap ∧ (a = none → cap = 0) ∧ len ≤ maxLen ∧ ∃ L : List Ch.Lk, L.length = len ∧ LksAt W a L ∧ ∀ i, i < len → I64l (L.getD i Ch.noLk) := by
  rcases open_slice Try.underlying22 h with ⟨hc, _⟩ | ⟨a, len, cap, m, k, D, Pl, hc, _, hl, hm, hmm, _, hi⟩
  · simp only [List.cons.injEq, and_true] at hc
    exact ⟨none, 0, 0, hc, fun _ => rfl, Nat.zero_le _, [], rfl, fun k hk => by simp at hk, fun i hi => by omega⟩
  · simp only [List.cons.injEq, and_true] at hc
    subst hc
    simp only [if_true] at hmm
    subst hmm
    refine ⟨some a, len, m, rfl, (fun h => by cases h), Nat.le_trans hl hm, ?_⟩
    obtain ⟨L, h1, h2⟩ := list_of Ch.noLk (fun i l => LkAt W (a.add (i * 3)) l ∧ I64l l) len (fun i hil => by
      obtain ⟨cs', hcs, ht⟩ := hi i (by omega)
      rw [cells_link] at hcs
      obtain ⟨_, hcl, hat⟩ := World.cells?_some hcs
      obtain ⟨y0, y1, y2, _, _, _, h0, h1, h2⟩ := trod_struct3 Try.underlying58 ht
      match cs', hcl with
      | [c0, c1, c2], _ =>
        rw [cells_int] at h0 h1 h2
        simp only [List.drop_zero, List.drop_succ_cons, List.take_succ_cons, List.take_zero] at h0 h1 h2
        obtain ⟨f, e0, _, w0⟩ := DataW.trod_int Try.underlying3 h0
        obtain ⟨t, e1, _, w1⟩ := DataW.trod_int Try.underlying3 h1
        obtain ⟨mo, e2, _, w2⟩ := DataW.trod_int Try.underlying3 h2
        simp only [List.cons.injEq, and_true] at e0 e1 e2
        subst e0 e1 e2
        have g0 := hat 0 (by omega)
        have g1 := hat 1 (by omega)
        have g2 := hat 2 (by omega)
        have eb : ∀ j, (a.add (i * 3)).add (j + 1) = ⟨(a.add (i * 3)).block, (a.add (i * 3)).off + (j + 1), none⟩ := fun j => by
          show Addr.add _ (j + 1) = _
          unfold Addr.add
          rw [if_neg (by omega)]
        refine ⟨⟨f, t, mo⟩, ⟨?_, ?_, ?_⟩, i64_of_wf w0, i64_of_wf w1, i64_of_wf w2⟩
        · simpa [Addr.add] using g0
        · rw [eb 0] at g1; simpa using g1
        · rw [eb 1] at g2; simpa using g2)
    exact ⟨L, h1, fun k hk => ⟨a, rfl, (h2 k (by omega)).1⟩, fun i hi => (h2 i hi).2⟩

theorem open_lks (hv : Value.okWide Try.prog W .any base 22 v) (h : DataW.Trod enc Try.prog W 0 (fun _ => true) true 22 v d p) :
    ∃ a len cap, v = .slice a len cap ∧ (a = none → cap = 0) ∧ len ≤ maxLen ∧ ∃ L : List Ch.Lk, L.length = len ∧ LksAt W a L ∧ ∀ i, i < len → I64l (L.getD i Ch.noLk) := by
  obtain ⟨a, len, cap, rfl⟩ := okWide_slice Try.underlying22 hv
  obtain ⟨fuel, hf⟩ := h
  obtain ⟨a', len', cap', he, r⟩ := trod_lks (c := .slice a len cap) hf
  cases he
  exact ⟨a, len, cap, rfl, r⟩

theorem open_sys (hv : Value.okWide Try.prog W .any base 24 v) (h : DataW.Trod enc Try.prog W 0 (fun _ => true) true 24 v d p) :
    ∃ (n : Int) (a : Option Addr) (len cap : Nat), v = sysV n a len cap ∧ I64 n ∧ (a = none → cap = 0) ∧ len ≤ maxLen ∧ ∃ L : List Ch.Lk, L.length = len ∧ LksAt W a L ∧ ∀ i, i < len → I64l (L.getD i Ch.noLk) := by
  obtain ⟨c0, c1, y0, y1, m, rfl, _, _, hy0, hy1⟩ := open_agg2 Try.underlying24 (by kernel_rfl) (by kernel_rfl) hv h
  obtain ⟨n, e0, _, wn⟩ := DataW.trod_int Try.underlying3 hy0
  simp only [List.cons.injEq, and_true] at e0
  subst e0
  obtain ⟨a, len, cap, rfl, r⟩ := trod_lks hy1
  exact ⟨n, a, len, cap, rfl, i64_of_wf wn, r⟩

theorem open_row (hv : Value.okWide Try.prog W .any base 32 v) (h : DataW.Trod enc Try.prog W 0 (fun _ => true) true 32 v d p) :
    ∃ (a : Option Addr) (len cap : Nat), v = .slice a len cap ∧ (a = none → cap = 0) ∧ len ≤ maxLen ∧ ∃ xs : List Int, xs.length = len ∧ IntsAt W a xs ∧ ∀ i, i < len → I64 (xs.getD i 0) := by
  obtain ⟨a, len, cap, rfl⟩ := okWide_slice Try.underlying32 hv
  refine ⟨a, len, cap, rfl, ?_⟩
  obtain ⟨fuel, hf⟩ := h
  rcases open_ints Try.underlying32 Try.underlying3 cells_int hf with ⟨hcs, _⟩ | ⟨x, l, c, zs, hcs, _, hl, hm, hz, _, hcell, hwz⟩
  · simp [Value.cells] at hcs
    obtain ⟨rfl, rfl, rfl⟩ := hcs
    exact ⟨fun _ => rfl, Nat.zero_le _, [], rfl, fun k hk => by simp at hk, fun i hi => by omega⟩
  · simp [Value.cells] at hcs
    obtain ⟨rfl, rfl, rfl⟩ := hcs
    have hz2 : zs.length = cap := by simpa using hz
    refine ⟨fun h => (by cases h), Nat.le_trans hl hm, zs.take len, by rw [List.length_take]; omega, fun k hk => ?_, fun i hi => ?_⟩
    · have hk2 : k < len := by rw [List.length_take] at hk; omega
      refine ⟨x, rfl, ?_⟩
      rw [hcell k (by omega), List.getD, List.getD, List.getElem?_take_of_lt hk2]
    · rw [List.getD, List.getElem?_take_of_lt hi, List.getElem?_eq_getElem (by omega)]
      exact i64_of_wf (hwz _ (List.getElem_mem _))
end Go.Proofs.Ytkcchangkhklcaa

/- Contracts of layer 2's laws: light. -/
namespace Go.Proofs.Ytkcchangkhklcaa
open Go.RowKit

set_option maxRecDepth 100000 in
set_option maxHeartbeats 2000000 in
theorem light_any (n : Int) (a : Option Addr) (m cap : Nat) (b : Bool) (hb : Hid ((decide (m ≤ 45) && decide (n ≤ 14)) = b)) (w : World) :
    Calls Try.prog 29 #[sysV n a m cap] w fun e w' => e = .returned (.bool b) ∧ Below w.heap.size w w' := by
  unfold sysV
  by_cases h1 : m ≤ 45
  · have h2 : (m : Int) ≤ 45 := by omega
    by_cases h3 : n ≤ 14
    · obtain rfl : true = b := by rw [← hb.out]; simp [h1, h3]
      clear hb
      go_enter Try.func29, Try.ntmps29
      go_wp2
      go_ret
      exact ⟨rfl, (by repeat (first | with_reducible exact Below.refl _ _ | with_reducible assumption | refine below_drewN ?_ _ | refine Below.drew ?_ | refine Below.alloc ?_ (by first | (simp; done) | (simp; omega) | omega) _ | refine Below.setCell ?_ (by first | (simp; done) | (simp; omega) | omega) _ | refine Below.trans ?_ (Below.mono (by assumption) (by first | (simp; done) | (simp; omega) | omega))))⟩
    · obtain rfl : false = b := by rw [← hb.out]; simp [h3]
      clear hb
      go_enter Try.func29, Try.ntmps29
      go_wp2
      go_ret
      exact ⟨rfl, (by repeat (first | with_reducible exact Below.refl _ _ | with_reducible assumption | refine below_drewN ?_ _ | refine Below.drew ?_ | refine Below.alloc ?_ (by first | (simp; done) | (simp; omega) | omega) _ | refine Below.setCell ?_ (by first | (simp; done) | (simp; omega) | omega) _ | refine Below.trans ?_ (Below.mono (by assumption) (by first | (simp; done) | (simp; omega) | omega))))⟩
  · have h2 : ¬ (m : Int) ≤ 45 := by omega
    obtain rfl : false = b := by rw [← hb.out]; simp [h1]
    clear hb
    go_enter Try.func29, Try.ntmps29
    go_wp2
    go_ret
    exact ⟨rfl, (by repeat (first | with_reducible exact Below.refl _ _ | with_reducible assumption | refine below_drewN ?_ _ | refine Below.drew ?_ | refine Below.alloc ?_ (by first | (simp; done) | (simp; omega) | omega) _ | refine Below.setCell ?_ (by first | (simp; done) | (simp; omega) | omega) _ | refine Below.trans ?_ (Below.mono (by assumption) (by first | (simp; done) | (simp; omega) | omega))))⟩
end Go.Proofs.Ytkcchangkhklcaa
