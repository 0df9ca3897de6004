/- Contracts of Print of package exact. -/
import Derived.Test.YtffabmojbelaaaaDoorE
import Derived.Test.YtffabmojbelaaaaDoorRp
import Derived.Test.YtffabmojbelaaaaDoorShelf
import Derived.Lib.AppendIntMem
namespace Go.Proofs.YtffabmojbelaaaaDoor
open Go.RowKit Go.Shelf

theorem below_grow (w : World) (k : Nat) (os : Array Obj) : Below w.heap.size w (Sort.grow (w.drewN k) os) :=
  ⟨rfl, rfl, rfl, by simp [Sort.grow, World.drewN], fun k hk => by simp [Sort.grow, World.drewN, Array.getElem?_append, hk]⟩

/-- the table that Itoa reads, whatever is done from block B on -/
abbrev Tab (B : Nat) (w : World) : Prop := Lib.TabBelow Tryd.prog B w "internal/strconv.uint64pow10" .u64 Lib.pow10Tab

theorem itoa_any (n : Int) (h0 : -9223372036854775808 ≤ n) (h1 : n ≤ 9223372036854775807) (w : World) (B : Nat) (hT : Hid (Tab B w)) :
    Calls Tryd.prog 107 #[.int .i64 n] w fun e w' => e = .returned (.string ⟨(Lib.itoa n).toArray⟩) ∧ Below w.heap.size w w' :=
  (Tryd.strconv_Itoa n h0 h1 w hT.out.here).mono fun _ _ ⟨he, k, os, hw⟩ => ⟨he, by rw [hw]; exact below_grow w k os⟩

theorem tab_on {B : Nat} {w w1 : World} (h : Hid (Tab B w)) (hb : Below B w w1) : Hid (Tab B w1) := Lib.hid (h.out.on hb)

theorem ret_str2 {s t : ByteArray} {c : Int} (h : s = t) : Ending.returned (.tuple #[.string s, .int .i64 c]) = .returned (.tuple #[.string t, .int .i64 c]) := by rw [h]

set_option maxHeartbeats 400000 in
theorem print_bad (a b : Int) (h : ¬ Rt.vldP a b) (w : World) :
    Calls Tryd.prog 68 #[.agg #[.int .i64 a, .int .i64 b]] w fun e w' => e = .returned (.tuple #[.string ⟨#[]⟩, .int .i64 1]) ∧ Below w.heap.size w w' := by
  replace h := Lib.hid h
  go_enter Tryd.func68, Tryd.ntmps68
  go_wp2_with fail
  refine (valid_not a b _ h.out).mono ?_
  rintro e w1 ⟨rfl, hb1⟩
  have hz1 := hb1.size
  go_wp2
  go_ret2
  exact ⟨rfl, (by repeat (first | with_reducible exact Below.refl _ _ | with_reducible assumption | refine below_drewN ?_ _ | refine Below.drew ?_ | refine Below.alloc ?_ (by first | (simp; done) | (simp; omega) | omega) _ | refine Below.setCell ?_ (by first | (simp; done) | (simp; omega) | omega) _ | refine Below.trans ?_ (Below.mono (by assumption) (by first | (simp; done) | (simp; omega) | omega))))⟩

set_option maxHeartbeats 400000 in
theorem print_one (a : Int) (h : Rt.vldP a 1) (w : World) (hT : Hid (Tab w.heap.size w)) :
    Calls Tryd.prog 68 #[.agg #[.int .i64 a, .int .i64 1]] w fun e w' => e = .returned (.tuple #[.string ⟨(Lib.itoa a).toArray⟩, .int .i64 0]) ∧ Below w.heap.size w w' := by
  have ⟨_, _, x3, x4, _⟩ := h
  replace h := Lib.hid h
  go_enter Tryd.func68, Tryd.ntmps68
  go_wp2_with fail
  refine (valid_yes a 1 _ h.out).mono ?_
  rintro e w1 ⟨rfl, hb1⟩
  have hz_hb1 := hb1.size
  try simp at hz_hb1
  have hb1_0_k0 : w1.cell? ⟨w.heap.size, 0, none⟩ = some (.int .i64 a) := (hb1.cell (p := ⟨w.heap.size, 0, none⟩) (by first | (simp; done) | (simp; omega) | omega)).trans (by first | assumption | (simp [go_sem]; done) | simp [go_sem, *])
  have hb1_0_k1 : w1.cell? ⟨w.heap.size, 1, none⟩ = some (.int .i64 1) := (hb1.cell (p := ⟨w.heap.size, 1, none⟩) (by first | (simp; done) | (simp; omega) | omega)).trans (by first | assumption | (simp [go_sem]; done) | simp [go_sem, *])
  have hb1_0_f : ∀ o, w1.frozen? ⟨w.heap.size, o, none⟩ = false := fun o => (hb1.frozen (p := ⟨w.heap.size, o, none⟩) (by first | (simp; done) | (simp; omega) | omega)).trans (by first | assumption | (simp [go_sem]; done) | simp [go_sem, *])
  have hb1_0_lt : w.heap.size < w1.heap.size := Nat.lt_of_lt_of_le (m := _) (by first | (simp; done) | (simp; omega) | omega) hb1.size
  have hv1 : Below w.heap.size w w1 := (by repeat (first | with_reducible exact Below.refl _ _ | with_reducible assumption | refine below_drewN ?_ _ | refine Below.drew ?_ | refine Below.alloc ?_ (by first | (simp; done) | (simp; omega) | omega) _ | refine Below.setCell ?_ (by first | (simp; done) | (simp; omega) | omega) _ | refine Below.trans ?_ (Below.mono (by assumption) (by first | (simp; done) | (simp; omega) | omega))))
  go_wp2_with fail
  refine (itoa_any a (by omega) (by omega) _ _ (tab_on hT hv1)).mono ?_
  rintro e w2 ⟨rfl, hb2⟩
  have hz_hb2 := hb2.size
  try simp at hz_hb2
  have hb2_0_k0 : w2.cell? ⟨w.heap.size, 0, none⟩ = some (.int .i64 a) := (hb2.cell (p := ⟨w.heap.size, 0, none⟩) (by first | (simp; done) | (simp; omega) | omega)).trans (by first | assumption | (simp [go_sem]; done) | simp [go_sem, *])
  have hb2_0_k1 : w2.cell? ⟨w.heap.size, 1, none⟩ = some (.int .i64 1) := (hb2.cell (p := ⟨w.heap.size, 1, none⟩) (by first | (simp; done) | (simp; omega) | omega)).trans (by first | assumption | (simp [go_sem]; done) | simp [go_sem, *])
  have hb2_0_f : ∀ o, w2.frozen? ⟨w.heap.size, o, none⟩ = false := fun o => (hb2.frozen (p := ⟨w.heap.size, o, none⟩) (by first | (simp; done) | (simp; omega) | omega)).trans (by first | assumption | (simp [go_sem]; done) | simp [go_sem, *])
  have hb2_0_lt : w.heap.size < w2.heap.size := Nat.lt_of_lt_of_le (m := _) (by first | (simp; done) | (simp; omega) | omega) hb2.size
  go_wp2
  go_ret2
  exact ⟨rfl, (by repeat (first | with_reducible exact Below.refl _ _ | with_reducible assumption | refine below_drewN ?_ _ | refine Below.drew ?_ | refine Below.alloc ?_ (by first | (simp; done) | (simp; omega) | omega) _ | refine Below.setCell ?_ (by first | (simp; done) | (simp; omega) | omega) _ | refine Below.trans ?_ (Below.mono (by assumption) (by first | (simp; done) | (simp; omega) | omega))))⟩

set_option maxHeartbeats 400000 in
theorem print_two (a b : Int) (h : Rt.vldP a b) (hb : (b != 1) = true) (la lb : ByteArray) (e1 : Hid ((⟨(Lib.itoa a).toArray⟩ : ByteArray) = la)) (e2 : Hid ((⟨(Lib.itoa b).toArray⟩ : ByteArray) = lb)) (z1 : la.size ≤ 21) (z2 : lb.size ≤ 21) (w : World) (hT : Hid (Tab w.heap.size w)) :
    Calls Tryd.prog 68 #[.agg #[.int .i64 a, .int .i64 b]] w fun e w' => e = .returned (.tuple #[.string ⟨(Lib.itoa a ++ 47 :: Lib.itoa b).toArray⟩, .int .i64 0]) ∧ Below w.heap.size w w' := by
  have ⟨x1, x2, x3, x4, _⟩ := h
  replace h := Lib.hid h
  go_enter Tryd.func68, Tryd.ntmps68
  go_wp2_with fail
  refine (valid_yes a b _ h.out).mono ?_
  rintro e w1 ⟨rfl, hb1⟩
  have hz_hb1 := hb1.size
  try simp at hz_hb1
  have hb1_0_k0 : w1.cell? ⟨w.heap.size, 0, none⟩ = some (.int .i64 a) := (hb1.cell (p := ⟨w.heap.size, 0, none⟩) (by first | (simp; done) | (simp; omega) | omega)).trans (by first | assumption | (simp [go_sem]; done) | simp [go_sem, *])
  have hb1_0_k1 : w1.cell? ⟨w.heap.size, 1, none⟩ = some (.int .i64 b) := (hb1.cell (p := ⟨w.heap.size, 1, none⟩) (by first | (simp; done) | (simp; omega) | omega)).trans (by first | assumption | (simp [go_sem]; done) | simp [go_sem, *])
  have hb1_0_f : ∀ o, w1.frozen? ⟨w.heap.size, o, none⟩ = false := fun o => (hb1.frozen (p := ⟨w.heap.size, o, none⟩) (by first | (simp; done) | (simp; omega) | omega)).trans (by first | assumption | (simp [go_sem]; done) | simp [go_sem, *])
  have hb1_0_lt : w.heap.size < w1.heap.size := Nat.lt_of_lt_of_le (m := _) (by first | (simp; done) | (simp; omega) | omega) hb1.size
  have hv1 : Below w.heap.size w w1 := (by repeat (first | with_reducible exact Below.refl _ _ | with_reducible assumption | refine below_drewN ?_ _ | refine Below.drew ?_ | refine Below.alloc ?_ (by first | (simp; done) | (simp; omega) | omega) _ | refine Below.setCell ?_ (by first | (simp; done) | (simp; omega) | omega) _ | refine Below.trans ?_ (Below.mono (by assumption) (by first | (simp; done) | (simp; omega) | omega))))
  go_wp2_with fail
  refine (itoa_any a (by omega) (by omega) _ _ (tab_on hT hv1)).mono ?_
  rintro e w2 ⟨he, hb2⟩
  rw [e1.out] at he
  subst he
  have hz_hb2 := hb2.size
  try simp at hz_hb2
  have hb2_0_k0 : w2.cell? ⟨w.heap.size, 0, none⟩ = some (.int .i64 a) := (hb2.cell (p := ⟨w.heap.size, 0, none⟩) (by first | (simp; done) | (simp; omega) | omega)).trans (by first | assumption | (simp [go_sem]; done) | simp [go_sem, *])
  have hb2_0_k1 : w2.cell? ⟨w.heap.size, 1, none⟩ = some (.int .i64 b) := (hb2.cell (p := ⟨w.heap.size, 1, none⟩) (by first | (simp; done) | (simp; omega) | omega)).trans (by first | assumption | (simp [go_sem]; done) | simp [go_sem, *])
  have hb2_0_f : ∀ o, w2.frozen? ⟨w.heap.size, o, none⟩ = false := fun o => (hb2.frozen (p := ⟨w.heap.size, o, none⟩) (by first | (simp; done) | (simp; omega) | omega)).trans (by first | assumption | (simp [go_sem]; done) | simp [go_sem, *])
  have hb2_0_lt : w.heap.size < w2.heap.size := Nat.lt_of_lt_of_le (m := _) (by first | (simp; done) | (simp; omega) | omega) hb2.size
  have hv2 : Below w.heap.size w w2 := (by repeat (first | with_reducible exact Below.refl _ _ | with_reducible assumption | refine below_drewN ?_ _ | refine Below.drew ?_ | refine Below.alloc ?_ (by first | (simp; done) | (simp; omega) | omega) _ | refine Below.setCell ?_ (by first | (simp; done) | (simp; omega) | omega) _ | refine Below.trans ?_ (Below.mono (by assumption) (by first | (simp; done) | (simp; omega) | omega))))
  go_wp2_with fail
  refine (itoa_any b (by omega) (by omega) _ _ (tab_on hT hv2)).mono ?_
  rintro e w3 ⟨he, hb3⟩
  rw [e2.out] at he
  subst he
  have hz3 := hb3.size
  go_wp2
  go_ret2
  exact ⟨ret_str2 (by rw [← e1.out, ← e2.out]; apply ByteArray.ext; simp), (by repeat (first | with_reducible exact Below.refl _ _ | with_reducible assumption | refine below_drewN ?_ _ | refine Below.drew ?_ | refine Below.alloc ?_ (by first | (simp; done) | (simp; omega) | omega) _ | refine Below.setCell ?_ (by first | (simp; done) | (simp; omega) | omega) _ | refine Below.trans ?_ (Below.mono (by assumption) (by first | (simp; done) | (simp; omega) | omega))))⟩

theorem size_itoa (n : Int) (h0 : -9223372036854775808 ≤ n) (h1 : n ≤ 9223372036854775807) : (⟨(Lib.itoa n).toArray⟩ : ByteArray).size ≤ 21 := by
  have := Lib.itoa_length_le n h0 h1
  show (Lib.itoa n).toArray.size ≤ 21
  simpa using this

/-- Print of a valid number -/
theorem print_ok (a b : Int) (h : Rt.vldP a b) (w : World) (hT : Hid (Tab w.heap.size w)) :
    Calls Tryd.prog 68 #[.agg #[.int .i64 a, .int .i64 b]] w fun e w' => e = .returned (.tuple #[.string ⟨(Rt.pr a b).toArray⟩, .int .i64 0]) ∧ Below w.heap.size w w' := by
  have ⟨x1, x2, x3, x4, _⟩ := h
  by_cases hb : b = 1
  · subst hb
    have e : Rt.pr a 1 = Lib.itoa a := by unfold Rt.pr; rw [if_pos rfl, List.append_nil]
    rw [e]
    exact print_one a h w hT
  · have e : Rt.pr a b = Lib.itoa a ++ 47 :: Lib.itoa b := by unfold Rt.pr; rw [if_neg hb]
    rw [e]
    exact print_two a b h (by rw [bne_iff_ne]; exact hb) _ _ (Lib.hid rfl) (Lib.hid rfl) (size_itoa a (by omega) (by omega)) (size_itoa b (by omega) (by omega)) w hT
end Go.Proofs.YtffabmojbelaaaaDoor
