/- The variables of Go's library that texts are read with; Cut, SplitN and Atoi. -/
import Derived.Test.YtemacokojdeimaaGreatDoorZBu
import Derived.Test.YtemacokojdeimaaGreatDoorZ07
import Derived.Shelf.Strconv.AtoiAll
set_option linter.unusedSimpArgs false
set_option linter.unusedVariables false
namespace Go.Proofs.YtemacokojdeimaaGreatDoor
open Go.RowKit

/-- what the walks need of the variables of Go's library -/
structure Vars (w : World) where
  m : Int
  ts : TypeId
  tr : TypeId
  ps : Value
  pr : Value
  hm : w.cell? ⟨0, 0, none⟩ = some (.int .i64 m)
  hs : w.cell? ⟨2, 0, none⟩ = some (.iface ts ps)
  hr : w.cell? ⟨3, 0, none⟩ = some (.iface tr pr)
/-- they stand behind whatever keeps the old blocks -/
def Vars.on {w W : World} (V : Vars w) (hb : Below w.heap.size w W) : Vars W :=
  ⟨V.m, V.ts, V.tr, V.ps, V.pr, (hb.cell (block_lt_of_cell V.hm)).trans V.hm, (hb.cell (block_lt_of_cell V.hs)).trans V.hs, (hb.cell (block_lt_of_cell V.hr)).trans V.hr⟩

theorem atoi_ok (s : ByteArray) (hl : s.size ≤ 1000000) (v : Int) (h : Lib.atoiAll s.data.toList = .ok v) (W : World) :
    Calls Tryz.prog 76 #[.string s] W fun e w' => e = .returned (.tuple #[.int .i64 v, .nilIface]) ∧ Below W.heap.size W w' := by
  refine (Tryz.strconv_Atoi_ok s (by omega) v h W).mono ?_
  rintro e w' ⟨he, hw⟩
  refine ⟨he, ?_⟩
  rcases hw with rfl | ⟨t, rfl⟩
  · exact Below.refl _ _
  · exact Lib.bytesWorld_below _ _ _
theorem atoi_no (s : ByteArray) (hl : s.size ≤ 1000000) (h : ∀ v, Lib.atoiAll s.data.toList ≠ .ok v) (W : World) (V : Vars W) :
    Calls Tryz.prog 76 #[.string s] W fun e w' => (∃ (x : Int) (N : Nat), e = .returned (.tuple #[.int .i64 x, .iface 163 (.pointer (some ⟨N, 0, none⟩))])) ∧ Below W.heap.size W w' := by
  cases hc : Lib.atoiAll s.data.toList
  · rename_i v
    exact (h v hc).elim
  · refine (Tryz.strconv_Atoi_syntax s (by omega) hc (.iface V.ts V.ps) W V.hs (Or.inr ⟨_, _, rfl⟩)).mono ?_
    rintro e w' ⟨N, he, _, _, hb⟩
    exact ⟨⟨_, N, he⟩, hb⟩
  · refine (Tryz.strconv_Atoi_range s (by omega) hc (.iface V.tr V.pr) W V.hr (Or.inr ⟨_, _, rfl⟩)).mono ?_
    rintro e w' ⟨N, he, _, _, hb⟩
    exact ⟨⟨_, N, he⟩, hb⟩

theorem cut_any (s : ByteArray) (sep : ByteArray) (hs : s.size ≤ 1000000) (W : World) (V : Vars W) :
    Calls Tryz.prog 55 #[.string s, .string sep] W fun e w' => e = .returned (.tuple #[.string ⟨(Lib.cut s.data.toList sep.data.toList).1.toArray⟩, .string ⟨(Lib.cut s.data.toList sep.data.toList).2.1.toArray⟩, .bool (Lib.cut s.data.toList sep.data.toList).2.2]) ∧ Below W.heap.size W w' :=
  (Tryz.strings_Cut s sep V.m W (by omega) V.hm).mono fun e w' ⟨he, n, hw⟩ => ⟨he, by rw [hw]; exact drewN_below n⟩

/-- pieces of a text in a row of strings -/
def PcAt (W : World) (sb : Nat) (ps : List ByteArray) : Prop := ∀ i, i < ps.length → W.cell? ⟨sb, i, none⟩ = some (.string (ps.getD i ByteArray.empty))
theorem PcAt.below {W W' : World} {sb : Nat} {ps : List ByteArray} (h : PcAt W sb ps) (hb : Below W.heap.size W W') : PcAt W' sb ps := fun i hi => kept1 (h i hi) hb

theorem splitN_any (s : ByteArray) (n : Nat) (hs : s.size ≤ 1000000) (hn : 1 ≤ n) (hn2 : n ≤ 1000) (W : World) (V : Vars W) :
    Calls Tryz.prog 75 #[.string s, .string ⟨#[32]⟩, .int .i64 n] W fun e w' => ∃ (ps : List ByteArray) (cp : Nat), e = .returned (.slice (some ⟨W.heap.size, 0, none⟩) ps.length cp) ∧ Hid (ps.map (·.data.toList) = Lib.splitN s.data.toList [32] n) ∧ Hid (ps ≠ []) ∧ ps.length ≤ cp ∧ Hid (PcAt w' W.heap.size ps) ∧ W.heap.size < w'.heap.size ∧ Below W.heap.size W w' := by
  refine (Tryz.strings_SplitN s ⟨#[32]⟩ n V.m W (by omega) V.hm (by decide) hn (by omega)).mono ?_
  rintro e w' ⟨rfl, rfl⟩
  have hlen := Lib.splitB_length_le ⟨#[32]⟩ 0 (min n (s.size + 1) - 1) s
  have hd := Lib.splitB_data ⟨#[32]⟩ 0 (min n (s.size + 1) - 1) s
  have hne : Lib.splitB ⟨#[32]⟩ 0 (min n (s.size + 1) - 1) s ≠ [] := fun e0 => by
    rw [e0] at hd
    exact Tx.splitK_ne 32 _ _ hd.symm
  have hz : s.data.toList.length = s.size := by simp
  refine ⟨_, _, rfl, Lib.hid ?_, Lib.hid hne, by omega, Lib.hid (fun i hi => ?_), by simp, (Below.refl _ _).alloc (Nat.le_refl _) _⟩
  · rw [hd]
    unfold Lib.splitN
    rw [hz]
  · generalize Lib.splitB ⟨#[32]⟩ 0 (min n (s.size + 1) - 1) s = ps at *
    show (World.alloc W _).cell? _ = _
    unfold Lib.cellsOf
    simp [go_sem, hi]
    rw [List.getElem?_append_left (by simpa using hi), List.getElem?_map, List.getElem?_eq_getElem hi]
    rfl
end Go.Proofs.YtemacokojdeimaaGreatDoor
