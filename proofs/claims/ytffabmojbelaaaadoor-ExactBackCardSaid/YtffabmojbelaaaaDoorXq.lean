/- The contract of package exact's Parse: all ways. -/
import Derived.Test.YtffabmojbelaaaaDoorXp
import Derived.Test.YtffabmojbelaaaaDoorPr
import Derived.Test.YtffabmojbelaaaaDoorRr
import Derived.Test.YtffabmojbelaaaaDoorShelfb
import Derived.Shelf.Strconv.AtoiAll
namespace Go.Proofs.YtffabmojbelaaaaDoor
open Go.RowKit

theorem parseX_bad {l a b : List UInt8} {sl : Bool} (hc : Lib.cut l [47] = (a, b, sl)) (h : (∀ v, Lib.atoiAll a ≠ .ok v) ∨ (∀ v, Lib.atoiAll (if sl then b else [49]) ≠ .ok v)) : Rt.parseX l = ⟨0, 0, 7⟩ := by
  unfold Rt.parseX
  rw [hc]
  simp only
  split
  · rename_i n d e1 e2
    rcases h with h | h
    · exact (h _ e1).elim
    · exact (h _ e2).elim
  · rfl
theorem parseX_ok {l a b : List UInt8} {sl : Bool} {n d : Int} (hc : Lib.cut l [47] = (a, b, sl)) (e1 : Lib.atoiAll a = .ok n) (e2 : Lib.atoiAll (if sl then b else [49]) = .ok d) :
    Rt.parseX l = if Rt.vld n d = true ∧ Rt.pr n d = l then ⟨n, d, 0⟩ else ⟨0, 0, 7⟩ := by
  unfold Rt.parseX
  rw [hc]
  simp only [e1, e2]
theorem cut_len (l : List UInt8) : (Lib.cut l [47]).1.length ≤ l.length ∧ (Lib.cut l [47]).2.1.length ≤ l.length := by
  unfold Lib.cut
  split
  · exact ⟨by simp; omega, by simp⟩
  · exact ⟨Nat.le_refl _, by simp⟩

/-- what the walk needs of the variables of Go's library -/
structure Vars (w : World) where
  m : Int
  ts : TypeId
  tr : TypeId
  ps : Value
  pr : Value
  hm : w.cell? ⟨0, 0, none⟩ = some (.int .i64 m)
  hs : w.cell? ⟨1, 0, none⟩ = some (.iface ts ps)
  hr : w.cell? ⟨2, 0, none⟩ = some (.iface tr pr)

/-- they stand behind whatever keeps the old blocks -/
def Vars.on {w W : World} (V : Vars w) (hb : Below w.heap.size w W) : Vars W :=
  ⟨V.m, V.ts, V.tr, V.ps, V.pr, (hb.cell (block_lt_of_cell V.hm)).trans V.hm, (hb.cell (block_lt_of_cell V.hs)).trans V.hs, (hb.cell (block_lt_of_cell V.hr)).trans V.hr⟩

theorem atoi_ways (s : ByteArray) (hl : s.size ≤ 60) (w : World) (V : Vars w) :
    (∃ v, Lib.atoiAll s.data.toList = .ok v ∧ Hid (∀ W : World, Below w.heap.size w W → Calls Tryd.prog 109 #[.string s] W fun e w' => e = .returned (.tuple #[.int .i64 v, .nilIface]) ∧ Below W.heap.size W w')) ∨
    ((∀ v, Lib.atoiAll s.data.toList ≠ .ok v) ∧ Hid (∀ W : World, Below w.heap.size w W → Calls Tryd.prog 109 #[.string s] W fun e w' => (∃ (x : Int) (N : Nat), e = .returned (.tuple #[.int .i64 x, .iface 135 (.pointer (some ⟨N, 0, none⟩))])) ∧ Below W.heap.size W w')) := by
  cases h : Lib.atoiAll s.data.toList
  · rename_i v
    refine .inl ⟨v, rfl, Lib.hid fun W _ => (Tryd.strconv_Atoi_ok s (by omega) v h W).mono ?_⟩
    rintro e w' ⟨he, hw⟩
    refine ⟨he, ?_⟩
    rcases hw with rfl | ⟨t, rfl⟩
    · exact Below.refl _ _
    · exact Lib.bytesWorld_below _ _ _
  · refine .inr ⟨fun v hv => by simp at hv, Lib.hid fun W hb => (Any.strconv_Atoi_syntax Tryd.laysC172 s (by omega) h (.iface V.ts V.ps) W ((hb.cell (block_lt_of_cell V.hs)).trans V.hs) (Or.inr ⟨_, _, rfl⟩)).mono ?_⟩
    rintro e w' ⟨N, he, _, _, hb⟩
    exact ⟨⟨_, N, he⟩, hb⟩
  · refine .inr ⟨fun v hv => by simp at hv, Lib.hid fun W hb => (Any.strconv_Atoi_range Tryd.laysC172 s (by omega) h (.iface V.tr V.pr) W ((hb.cell (block_lt_of_cell V.hr)).trans V.hr) (Or.inr ⟨_, _, rfl⟩)).mono ?_⟩
    rintro e w' ⟨N, he, _, _, hb⟩
    exact ⟨⟨_, N, he⟩, hb⟩

theorem print_on (a b : Int) (h : Rt.vldP a b) (w : World) (hT : Hid (Tab w.heap.size w)) : Hid (∀ W : World, Below w.heap.size w W → Calls Tryd.prog 68 #[.agg #[.int .i64 a, .int .i64 b]] W fun e w' => e = .returned (.tuple #[.string ⟨(Rt.pr a b).toArray⟩, .int .i64 0]) ∧ Below W.heap.size W w') :=
  Lib.hid fun W hb => print_ok a b h W (Lib.hid (Lib.tabBelow_of_tabIs (hT.out.on hb).here))

theorem xparse_T (s : ByteArray) (A B : List UInt8) (la : A.length ≤ 60) (lb : B.length ≤ 60) (hc : Lib.cut s.data.toList [47] = (A, B, true)) (w : World) (V : Vars w) (hT : Hid (Tab w.heap.size w))
    (HC : Hid (∀ W : World, Below w.heap.size w W → Calls Tryd.prog 108 #[.string s, .string { data := #[47] }] W fun e w' => e = .returned (.tuple #[.string ⟨A.toArray⟩, .string ⟨B.toArray⟩, .bool true]) ∧ Below W.heap.size W w')) :
    Calls Tryd.prog 69 #[.string s] w fun e w' => e = .returned (numV (Rt.parseX s.data.toList)) ∧ Below w.heap.size w w' := by
  rcases atoi_ways ⟨A.toArray⟩ (by show A.toArray.size ≤ 60; simpa using la) w V with ⟨n, en, HL⟩ | ⟨en, HL⟩ <;> rcases atoi_ways ⟨B.toArray⟩ (by show B.toArray.size ≤ 60; simpa using lb) w V with ⟨d, ed, HR⟩ | ⟨ed, HR⟩
  · have px := parseX_ok (b := B) hc (show Lib.atoiAll A = .ok n from en) (show Lib.atoiAll (if true then B else [49]) = .ok d from ed)
    rw [px]
    by_cases hv : Rt.vldP n d
    · have HP := print_on n d hv w hT
      by_cases hp : Rt.pr n d = s.data.toList
      · rw [if_pos ⟨Rt.vld_iff.2 hv, hp⟩]
        rw [str_of hp] at HP
        exact xparse_T_eq s _ _ n d w HC HL HR HP
      · rw [if_neg (fun h => hp h.2)]
        exact xparse_T_ne s _ _ n d _ (str_ne hp) w HC HL HR HP
    · rw [if_neg (fun h => hv (Rt.vld_iff.1 h.1))]
      exact xparse_T_bad s _ _ n d w HC HL HR (Lib.hid fun W _ => print_bad n d hv W)
  · rw [parseX_bad hc (.inr ed)]
    exact xparse_T_oe s _ _ n w HC HL HR
  · rw [parseX_bad hc (.inl en)]
    exact xparse_T_eo s _ _ d w HC HL HR
  · rw [parseX_bad hc (.inl en)]
    exact xparse_T_ee s _ _ w HC HL HR

theorem xparse_F (s : ByteArray) (A B : List UInt8) (la : A.length ≤ 60) (_lb : B.length ≤ 60) (hc : Lib.cut s.data.toList [47] = (A, B, false)) (w : World) (V : Vars w) (hT : Hid (Tab w.heap.size w))
    (HC : Hid (∀ W : World, Below w.heap.size w W → Calls Tryd.prog 108 #[.string s, .string { data := #[47] }] W fun e w' => e = .returned (.tuple #[.string ⟨A.toArray⟩, .string ⟨B.toArray⟩, .bool false]) ∧ Below W.heap.size W w')) :
    Calls Tryd.prog 69 #[.string s] w fun e w' => e = .returned (numV (Rt.parseX s.data.toList)) ∧ Below w.heap.size w w' := by
  rcases atoi_ways ⟨A.toArray⟩ (by show A.toArray.size ≤ 60; simpa using la) w V with ⟨n, en, HL⟩ | ⟨en, HL⟩ <;> rcases atoi_ways ⟨#[49]⟩ (by decide) w V with ⟨d, ed, HR⟩ | ⟨ed, HR⟩
  · have px := parseX_ok (b := B) hc (show Lib.atoiAll A = .ok n from en) (show Lib.atoiAll (if false then B else [49]) = .ok d from ed)
    rw [px]
    by_cases hv : Rt.vldP n d
    · have HP := print_on n d hv w hT
      by_cases hp : Rt.pr n d = s.data.toList
      · rw [if_pos ⟨Rt.vld_iff.2 hv, hp⟩]
        rw [str_of hp] at HP
        exact xparse_F_eq s _ _ n d w HC HL HR HP
      · rw [if_neg (fun h => hp h.2)]
        exact xparse_F_ne s _ _ n d _ (str_ne hp) w HC HL HR HP
    · rw [if_neg (fun h => hv (Rt.vld_iff.1 h.1))]
      exact xparse_F_bad s _ _ n d w HC HL HR (Lib.hid fun W _ => print_bad n d hv W)
  · rw [parseX_bad hc (.inr ed)]
    exact xparse_F_oe s _ _ n w HC HL HR
  · rw [parseX_bad hc (.inl en)]
    exact xparse_F_eo s _ _ d w HC HL HR
  · rw [parseX_bad hc (.inl en)]
    exact xparse_F_ee s _ _ w HC HL HR

/-- Parse of package exact -/
theorem xparse_any (s : ByteArray) (hs : s.size ≤ 60) (w : World) (V : Vars w) (hT : Hid (Tab w.heap.size w)) :
    Calls Tryd.prog 69 #[.string s] w fun e w' => e = .returned (numV (Rt.parseX s.data.toList)) ∧ Below w.heap.size w w' := by
  have HC : ∀ W : World, Below w.heap.size w W → Calls Tryd.prog 108 #[.string s, .string { data := #[47] }] W fun e w' => e = .returned (.tuple #[.string ⟨(Lib.cut s.data.toList [47]).1.toArray⟩, .string ⟨(Lib.cut s.data.toList [47]).2.1.toArray⟩, .bool (Lib.cut s.data.toList [47]).2.2]) ∧ Below W.heap.size W w' := fun W hb =>
    (Tryd.strings_Cut s ⟨#[47]⟩ V.m W (by omega) ((hb.cell (block_lt_of_cell V.hm)).trans V.hm)).mono fun e w' ⟨he, n, hw⟩ => ⟨he, by rw [hw]; exact drewN_below n⟩
  obtain ⟨la, lb⟩ := cut_len s.data.toList
  have hl : s.data.toList.length ≤ 60 := by simpa using hs
  generalize hc : Lib.cut s.data.toList [47] = c at *
  obtain ⟨A, B, sl⟩ := c
  cases sl
  · exact xparse_F s A B (Nat.le_trans la hl) (Nat.le_trans lb hl) hc w V hT (Lib.hid HC)
  · exact xparse_T s A B (Nat.le_trans la hl) (Nat.le_trans lb hl) hc w V hT (Lib.hid HC)
end Go.Proofs.YtffabmojbelaaaaDoor
