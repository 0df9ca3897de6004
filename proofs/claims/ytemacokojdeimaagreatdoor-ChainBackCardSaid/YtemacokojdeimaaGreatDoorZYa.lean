/- What the claims of layer 2 share: how an argument that came in is opened. -/
import Derived.Test.YtemacokojdeimaaGreatDoorRows
import Derived.Test.YtemacokojdeimaaGreatDoorZ07
import Derived.ProofKit
import Derived.WalkKit
import Derived.OpenShut
import Derived.ShutString
import Derived.ChangeOld
import Derived.Below
import Derived.Lib.SmallJoins
import Derived.Deep.Slices
import Derived.Deep.Strs
set_option linter.unusedSimpArgs false
set_option linter.unusedVariables false
namespace Go.Proofs.YtemacokojdeimaaGreatDoor
open Go.ChangeShapes Go.WideShapes Go.ChangeAt Go.RowKit Go.Joins Go.Deep
open Go.ChangeMaps (open_string shut_string)
set_option maxRecDepth 100000

theorem lawOwn : ownKnob Tryz.prog.godebug = none := by kernel_rfl
theorem lawLaidOut : laidOutB Tryz.prog = true := by kernel_rfl

/-- a number that int holds -/
def I64 (a : Int) : Prop := -9223372036854775808 ≤ a ∧ a ≤ 9223372036854775807
theorem i64_of_wf {a : Int} (h : (Lit.int .i64 a).wf = true) : I64 a := by
  have e1 : IntKind.i64.min = -9223372036854775808 := rfl
  have e2 : IntKind.i64.max = 9223372036854775807 := rfl
  simp [Lit.wf, e1, e2] at h
  exact h
def I64l (l : Ch.Lk) : Prop := I64 l.f ∧ I64 l.t ∧ I64 l.m

variable {H : Type} {enc : TypeId × Value → H} {W : World} {base : Nat} {v : Value} {d : DataW H} {p : List MemPlace}

theorem open_i64 (hv : Value.okWide Tryz.prog W .any base 3 v) (h : DataW.Trod enc Tryz.prog W 0 (fun _ => true) true 3 v d p) : ∃ a : Int, v = .int .i64 a ∧ I64 a := by
  obtain ⟨a, rfl, _, _, wa⟩ := open_int Tryz.underlying3 hv h
  exact ⟨a, rfl, i64_of_wf wa⟩

theorem cells_int : Tryz.prog.cellsOf 3 = 1 := by kernel_rfl
theorem cells_lks : Tryz.prog.cellsOf 22 = 1 := by kernel_rfl
theorem cells_link : Tryz.prog.cellsOf 54 = 3 := by kernel_rfl
theorem cells_sys : Tryz.prog.cellsOf 24 = 2 := by kernel_rfl

/-- a list out of what is known at each place -/
theorem list_of {α : Type} (z : α) (P : Nat → α → Prop) : ∀ (m : Nat), (∀ i, i < m → ∃ x, P i x) → ∃ L : List α, L.length = m ∧ ∀ i, i < m → P i (L.getD i z)
  | 0, _ => ⟨[], rfl, fun i h => by omega⟩
  | m + 1, h => by
    obtain ⟨L, h1, h2⟩ := list_of z P m (fun i hi => h i (by omega))
    obtain ⟨x, hx⟩ := h m (by omega)
    refine ⟨L ++ [x], by simp [h1], fun i hi => ?_⟩
    by_cases e : i < m
    · have e2 : (L ++ [x]).getD i z = L.getD i z := by rw [List.getD, List.getD, List.getElem?_append_left (by omega)]
      rw [e2]; exact h2 i e
    · obtain rfl : i = m := by omega
      have e2 : (L ++ [x]).getD i z = x := by rw [List.getD, List.getElem?_append_right (by omega), h1, Nat.sub_self]; rfl
      rw [e2]; exact hx

theorem trod_lks {n : Nat} {c : Value} {y : DataW H × List MemPlace} (h : DataW.trod enc Tryz.prog W 0 (fun _ => true) true n 22 [c] = some y) :
    ∃ a len cap, c = .slice a len cap ∧ (a = none → cap = 0) ∧ len ≤ maxLen ∧ ∃ L : List Ch.Lk, L.length = len ∧ LksAt W a L ∧ ∀ i, i < len → I64l (L.getD i Ch.noLk) := by
  rcases open_slice Tryz.underlying22 h with ⟨hc, _⟩ | ⟨a, len, cap, m, k, D, Pl, hc, _, hl, hm, hmm, _, hi⟩
  · simp only [List.cons.injEq, and_true] at hc
    exact ⟨none, 0, 0, hc, fun _ => rfl, Nat.zero_le _, [], rfl, fun k hk => by simp at hk, fun i hi => by omega⟩
  · simp only [List.cons.injEq, and_true] at hc
    subst hc
    simp only [if_true] at hmm
    subst hmm
    refine ⟨some a, len, m, rfl, (fun h => by cases h), Nat.le_trans hl hm, ?_⟩
    obtain ⟨L, h1, h2⟩ := list_of Ch.noLk (fun i l => LkAt W (a.add (i * 3)) l ∧ I64l l) len (fun i hil => by
      obtain ⟨cs', hcs, ht⟩ := hi i (by omega)
      rw [cells_link] at hcs
      obtain ⟨_, hcl, hat⟩ := World.cells?_some hcs
      obtain ⟨y0, y1, y2, _, _, _, h0, h1, h2⟩ := trod_struct3 Tryz.underlying54 ht
      match cs', hcl with
      | [c0, c1, c2], _ =>
        rw [cells_int] at h0 h1 h2
        simp only [List.drop_zero, List.drop_succ_cons, List.take_succ_cons, List.take_zero] at h0 h1 h2
        obtain ⟨f, e0, _, w0⟩ := DataW.trod_int Tryz.underlying3 h0
        obtain ⟨t, e1, _, w1⟩ := DataW.trod_int Tryz.underlying3 h1
        obtain ⟨mo, e2, _, w2⟩ := DataW.trod_int Tryz.underlying3 h2
        simp only [List.cons.injEq, and_true] at e0 e1 e2
        subst e0 e1 e2
        have g0 := hat 0 (by omega)
        have g1 := hat 1 (by omega)
        have g2 := hat 2 (by omega)
        have eb : ∀ j, (a.add (i * 3)).add (j + 1) = ⟨(a.add (i * 3)).block, (a.add (i * 3)).off + (j + 1), none⟩ := fun j => by
          show Addr.add _ (j + 1) = _
          unfold Addr.add
          rw [if_neg (by omega)]
        refine ⟨⟨f, t, mo⟩, ⟨?_, ?_, ?_⟩, i64_of_wf w0, i64_of_wf w1, i64_of_wf w2⟩
        · simpa [Addr.add] using g0
        · rw [eb 0] at g1; simpa using g1
        · rw [eb 1] at g2; simpa using g2)
    exact ⟨L, h1, fun k hk => ⟨a, rfl, (h2 k (by omega)).1⟩, fun i hi => (h2 i hi).2⟩

theorem open_lks (hv : Value.okWide Tryz.prog W .any base 22 v) (h : DataW.Trod enc Tryz.prog W 0 (fun _ => true) true 22 v d p) :
    ∃ a len cap, v = .slice a len cap ∧ (a = none → cap = 0) ∧ len ≤ maxLen ∧ ∃ L : List Ch.Lk, L.length = len ∧ LksAt W a L ∧ ∀ i, i < len → I64l (L.getD i Ch.noLk) := by
  obtain ⟨a, len, cap, rfl⟩ := okWide_slice Tryz.underlying22 hv
  obtain ⟨fuel, hf⟩ := h
  obtain ⟨a', len', cap', he, r⟩ := trod_lks (c := .slice a len cap) hf
  cases he
  exact ⟨a, len, cap, rfl, r⟩

theorem open_sys (hv : Value.okWide Tryz.prog W .any base 24 v) (h : DataW.Trod enc Tryz.prog W 0 (fun _ => true) true 24 v d p) :
    ∃ (n : Int) (a : Option Addr) (len cap : Nat), v = sysV n a len cap ∧ I64 n ∧ (a = none → cap = 0) ∧ len ≤ maxLen ∧ ∃ L : List Ch.Lk, L.length = len ∧ LksAt W a L ∧ ∀ i, i < len → I64l (L.getD i Ch.noLk) := by
  obtain ⟨c0, c1, y0, y1, m, rfl, _, _, hy0, hy1⟩ := open_agg2 Tryz.underlying24 (by kernel_rfl) (by kernel_rfl) hv h
  obtain ⟨n, e0, _, wn⟩ := DataW.trod_int Tryz.underlying3 hy0
  simp only [List.cons.injEq, and_true] at e0
  subst e0
  obtain ⟨a, len, cap, rfl, r⟩ := trod_lks hy1
  exact ⟨n, a, len, cap, rfl, i64_of_wf wn, r⟩

theorem open_row (hv : Value.okWide Tryz.prog W .any base 41 v) (h : DataW.Trod enc Tryz.prog W 0 (fun _ => true) true 41 v d p) :
    ∃ (a : Option Addr) (len cap : Nat), v = .slice a len cap ∧ (a = none → cap = 0) ∧ len ≤ maxLen ∧ ∃ xs : List Int, xs.length = len ∧ IntsAt W a xs ∧ ∀ i, i < len → I64 (xs.getD i 0) := by
  obtain ⟨a, len, cap, rfl⟩ := okWide_slice Tryz.underlying41 hv
  refine ⟨a, len, cap, rfl, ?_⟩
  obtain ⟨fuel, hf⟩ := h
  rcases open_ints Tryz.underlying41 Tryz.underlying3 cells_int hf with ⟨hcs, _⟩ | ⟨x, l, c, zs, hcs, _, hl, hm, hz, _, hcell, hwz⟩
  · simp [Value.cells] at hcs
    obtain ⟨rfl, rfl, rfl⟩ := hcs
    exact ⟨fun _ => rfl, Nat.zero_le _, [], rfl, fun k hk => by simp at hk, fun i hi => by omega⟩
  · simp [Value.cells] at hcs
    obtain ⟨rfl, rfl, rfl⟩ := hcs
    have hz2 : zs.length = cap := by simpa using hz
    refine ⟨fun h => (by cases h), Nat.le_trans hl hm, zs.take len, by rw [List.length_take]; omega, fun k hk => ?_, fun i hi => ?_⟩
    · have hk2 : k < len := by rw [List.length_take] at hk; omega
      refine ⟨x, rfl, ?_⟩
      rw [hcell k (by omega), List.getD, List.getD, List.getElem?_take_of_lt hk2]
    · rw [List.getD, List.getElem?_take_of_lt hi, List.getElem?_eq_getElem (by omega)]
      exact i64_of_wf (hwz _ (List.getElem_mem _))
end Go.Proofs.YtemacokojdeimaaGreatDoor
