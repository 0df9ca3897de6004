/- A strings.Builder that a call has made: what its methods leave, and what stands beside it. -/
import Derived.Test.YtemacokojdeimaaGreatDoorZ07
import Derived.Test.YtemacokojdeimaaGreatDoorZTx
import Derived.Lib.FrozenHead2
import Derived.Lib.OthersKept
import Derived.Lib.AppendIntMem
set_option linter.unusedSimpArgs false
set_option linter.unusedVariables false
namespace Go.Proofs.YtemacokojdeimaaGreatDoor
open Go.RowKit

theorem bdAt_below {T e : TypeId} {B b : Nat} {p : Value} {bs : List Value} {W W' : World} (h : Lib.BuilderAtF T e B b p bs W) (hb : Below W.heap.size W W') : Lib.BuilderAtF T e B b p bs W' := by
  obtain ⟨hB, v, hbk, ⟨h1, h2⟩, hne⟩ := h
  refine ⟨hB, v, (hb.block b (Array.getElem?_eq_some_iff.1 hbk).1).trans hbk, ⟨h1, ?_⟩, hne⟩
  rcases h2 with h2 | ⟨g, cap, cur, fz, hv, hBg, hg, r⟩
  · exact .inl h2
  · exact .inr ⟨g, cap, cur, fz, hv, hBg, (hb.block g (Array.getElem?_eq_some_iff.1 hg).1).trans hg, r⟩
/-- a builder in block b that holds these bytes; what lies below B is not its own -/
def Bd (B b : Nat) (l : List UInt8) (W : World) : Prop := Lib.IsBuilderF 61 5 B b (Lib.byteCells l) W ∧ B ≤ W.heap.size
theorem Bd.below {B b : Nat} {l : List UInt8} {W W' : World} (h : Bd B b l W) (hb : Below W.heap.size W W') : Bd B b l W' := ⟨h.1.elim (fun x => .inl (bdAt_below x hb)) (fun x => .inr (bdAt_below x hb)), Nat.le_trans h.2 hb.size⟩
/-- what stands beside a builder -/
def Kp (b : Nat) (W W' : World) : Prop := Lib.OthersKept 5 (some b) W W'
theorem Kp.of {b : Nat} {W W' : World} (hb : Below W.heap.size W W') : Kp b W W' := fun k _ h _ _ => (hb.block k (Array.getElem?_eq_some_iff.1 h).1).trans h
theorem Kp.trans {b : Nat} {W X Y : World} (h : Kp b W X) (k : Kp b X Y) : Kp b W Y := Lib.OthersKept.trans h k
/-- a row of integers -/
def RowAt (W : World) (g : Nat) (ns : List Int) : Prop := W.heap[g]? = some (.cells (ns.map (Value.int .i64)).toArray 3)
theorem RowAt.kept {W W' : World} {g b : Nat} {ns : List Int} (h : RowAt W g ns) (k : Kp b W W') (hg : g ≠ b) : RowAt W' g ns := k g _ h (fun e => hg (Option.some.inj e)) (fun c fz e => by cases e)
theorem RowAt.lt {W : World} {g : Nat} {ns : List Int} (h : RowAt W g ns) : g < W.heap.size := (Array.getElem?_eq_some_iff.1 h).1
theorem RowAt.cell {W : World} {g : Nat} {ns : List Int} (h : RowAt W g ns) {k : Nat} (hk : k < ns.length) : W.cell? ⟨g, k, none⟩ = some (.int .i64 (ns.getD k 0)) := by
  have h' : W.heap[g]? = some (.cells (ns.map (Value.int .i64)).toArray 3) := h
  simp [World.cell?, h', hk]
theorem row_new (W : World) (ns : List Int) : RowAt (W.alloc (Obj.cells (ns.map (Value.int .i64)).toArray 3)) W.heap.size ns := by
  show (W.heap.push (Obj.cells (ns.map (Value.int .i64)).toArray 3))[W.heap.size]? = some _
  exact Array.getElem?_push_size

theorem bd_new (W : World) : Bd W.heap.size W.heap.size [] (W.alloc (.cells #[.pointer none, .slice none 0 0] 61)) :=
  ⟨Lib.IsBuilderF.of (Lib.fresh_isBuilder 61 5 W), by simp⟩

theorem infoByte : (Tryz.prog.info? 5).map (fun i => (i.zero, i.size, i.bytes)) = some (some (.int .u8 0), 1, 1) := by kernel_rfl
theorem sizeBuilder : (Tryz.prog.info? 61).map (fun j => j.size) = some 2 := by kernel_rfl

/-- a builder whose address is its own -/
def Used (B b : Nat) (l : List UInt8) (W : World) : Prop := Lib.BuilderAtF 61 5 B b (.pointer (some ⟨b, 0, none⟩)) (Lib.byteCells l) W

set_option maxHeartbeats 1000000 in
set_option maxRecDepth 100000 in
theorem copyCheck_used (b : Nat) (w : World) (h0 : w.cell? ⟨b, 0, none⟩ = some (.pointer (some ⟨b, 0, none⟩))) :
    Calls Tryz.prog 72 #[.pointer (some ⟨b, 0, none⟩)] w fun e w' => e = .returned (.tuple #[]) ∧ w' = w := by
  obtain ⟨j, hj, _⟩ := Option.map_eq_some_iff.1 sizeBuilder
  go_enter Tryz.func72, Tryz.ntmps72
  go_wp2
  rw [Lib.run_neq_ptr_same w _ Tryz.underlying58 hj]
  go_wp2
  refine bodyPost_end (v := .tuple #[]) (by simp [results, Tryz.results72, go_sem]) rfl ?_
  exact ⟨rfl, rfl⟩

set_option maxHeartbeats 1000000 in
set_option maxRecDepth 100000 in
theorem copyCheck_fresh (b : Nat) (w : World) (h0 : w.cell? ⟨b, 0, none⟩ = some (.pointer none)) (hsh : w.shape? b = some (61, 2)) (hfz : w.frozen? ⟨b, 0, none⟩ = false) :
    Calls Tryz.prog 72 #[.pointer (some ⟨b, 0, none⟩)] w fun e w' => e = .returned (.tuple #[]) ∧ w' = w.setCell ⟨b, 0, none⟩ (.pointer (some ⟨b, 0, none⟩)) := by
  obtain ⟨j, hj, hjs⟩ := Option.map_eq_some_iff.1 sizeBuilder
  go_enter Tryz.func72, Tryz.ntmps72
  go_wp2
  rw [Lib.run_to_unsafe w ⟨b, 0, none⟩ Tryz.underlying58 Tryz.underlying133 hj (by rw [hjs]; decide) hsh (Nat.zero_lt_succ 1)]
  simp only [Result.andThen]
  rw [Oper.upon_value]
  go_wp2
  rw [run_callFunc_extern Tryz.func85 (by kernel_rfl) (by kernel_rfl) (by kernel_rfl) (e := Extern.AbiNoEscape.same) (by kernel_rfl), Lib.run_noEscape]
  simp only [Result.andThen]
  rw [Oper.upon_value]
  go_wp2
  rw [Lib.run_from_unsafe w ⟨b, 0, none⟩ Tryz.underlying133 Tryz.underlying58 hj hsh (by kernel_rfl)]
  simp only [Result.andThen]
  rw [Oper.upon_value]
  go_wp2
  refine bodyPost_end (v := .tuple #[]) (by simp [results, Tryz.results72, go_sem]) rfl ?_
  exact ⟨rfl, rfl⟩

theorem copyCheck_any (B b : Nat) (l : List UInt8) (w : World) (h : Bd B b l w) :
    Calls Tryz.prog 72 #[.pointer (some ⟨b, 0, none⟩)] w fun e w' => e = .returned (.tuple #[]) ∧ Used B b l w' ∧ Below B w w' ∧ Kp b w w' := by
  rcases h.1 with h | h
  · refine (copyCheck_fresh b w h.cell0 h.shape h.frozen0).mono ?_
    rintro e w' ⟨rfl, rfl⟩
    exact ⟨rfl, h.used _, (Below.refl B w).setCell (p := ⟨b, 0, none⟩) h.1 _, (Lib.OthersKept.refl _ _ w).setCell ⟨b, 0, none⟩ rfl _⟩
  · refine (copyCheck_used b w h.cell0).mono ?_
    rintro e w' ⟨rfl, rfl⟩
    exact ⟨rfl, h, Below.refl B _, Lib.OthersKept.refl _ _ _⟩

/-- a builder, opened: its row, its cells -/
theorem Used.parts {B b : Nat} {l : List UInt8} {W : World} (h : Used B b l W) : ∃ v, B ≤ b ∧ b < W.heap.size ∧ W.heap[b]? = some (.cells #[.pointer (some ⟨b, 0, none⟩), v] 61) ∧ W.ownsRowF B 5 1 v l.length (Lib.byteCells l) ∧ v.ownBlock ≠ some b := by
  have hlt := h.lt
  obtain ⟨hB, v, hb, ho, hn⟩ := h
  rw [Lib.byteCells_length] at ho
  exact ⟨v, hB, hlt, hb, ho, hn⟩

set_option maxHeartbeats 2000000 in
set_option maxRecDepth 100000 in
theorem writeByte_any (B b : Nat) (l : List UInt8) (c : UInt8) (z : Int) (hz : Hid (z = (c.toNat : Int))) (w : World) (h : Hid (Bd B b l w)) (hl : Hid (l.length ≤ 1000000000)) :
    Calls Tryz.prog 53 #[.pointer (some ⟨b, 0, none⟩), .int .u8 z] w fun e w' => e = .returned .nilIface ∧ Hid (Bd B b (l ++ [c]) w') ∧ Below B w w' ∧ Hid (Kp b w w') := by
  obtain ⟨i0, hi, hz0, hz1, hz2⟩ := info_parts infoByte
  have hBw := h.out.2
  have he : Lib.byteCells (l ++ [c]) = Lib.byteCells l ++ [.int .u8 z] := by rw [Lib.byteCells_append, hz.out]; rfl
  have hlb := Lib.byteCells_length l
  have hl' := hl.out
  go_enter Tryz.func53, Tryz.ntmps53
  go_wp2_with fail
  refine (copyCheck_any B b l _ h.out).mono ?_
  rintro e w1 ⟨rfl, h1, hb1, hk1⟩
  obtain ⟨v, hB, hlt, hbk, hown, hne⟩ := h1.parts
  have c1 : w1.cell? ⟨b, 1, none⟩ = some v := by rw [Lib.cell_of_heap hbk]; rfl
  have hs1 := hb1.size
  clear h1
  go_wp2_with (at_builtin; refine wpList_append_ownF _ rfl _ _ 59 rfl B 5 i0 (.int .u8 0) 1 1 Tryz.underlying59 hi hz0 hz1 hz2 rfl (by decide) _ _ _ rfl (hown.alloc _) ⟨w1.heap.size, 0, none⟩ 1 1 [.int .u8 z] rfl rfl ?c1 ?c2 ?c3 ?c4 ?c5 ?_)
  case c1 =>
    intro j u hj
    match j, hj with
    | 0, hj => simp at hj; subst hj; simp [Addr.add]
  case c2 => intro u hu; simp at hu; subst hu; rfl
  case c3 => unfold maxLen; omega
  case c4 => omega
  case c5 => simp; omega
  intro v' w2 hown' hgrow _
  have hb2 : w2.heap[b]? = some (.cells #[.pointer (some ⟨b, 0, none⟩), v] 61) := by
    rw [hgrow.block b (by simp; omega) (fun e => hne e.symm), Lib.alloc_old w1 _ b hlt]
    exact hbk
  have d1 : w2.cell? ⟨b, 1, none⟩ = some v := by rw [Lib.cell_of_heap hb2]; rfl
  have f1 : w2.frozen? ⟨b, 1, none⟩ = false := Lib.frozen_of_heap hb2 1
  obtain ⟨g, cap, rfl⟩ : ∃ g cap, v' = .slice (some ⟨g, 0, none⟩) (l.length + 1) cap := by
    rcases hown'.2 with ⟨_, h0⟩ | ⟨g, cap, cur, fz, hv, _⟩
    · omega
    · exact ⟨g, cap, hv⟩
  go_wp2
  go_ret
  have hb3 : Below B w (w2.setCell ⟨b, 1, none⟩ (.slice (some ⟨g, 0, none⟩) (l.length + 1) cap)) :=
    ((hb1.alloc (by omega) _).grown hgrow (by simp; omega) (fun k hk => (hown.lt k hk).1)).setCell (p := ⟨b, 1, none⟩) hB _
  refine ⟨rfl, Lib.hid ⟨Or.inr ?_, Nat.le_trans hBw hb3.size⟩, hb3, Lib.hid (((hk1.alloc _).grown hgrow (Lib.ownsRowF_kind (hown.alloc _))).setCell ⟨b, 1, none⟩ rfl _)⟩
  rw [he]
  exact Lib.BuilderAtF.put (T := 61) (e := 5) hB hb2 (bs' := Lib.byteCells l ++ [.int .u8 z]) (by rw [List.length_append, Lib.byteCells_length]; exact hown') (by decide)

set_option maxHeartbeats 2000000 in
set_option maxRecDepth 100000 in
theorem writeString_any (B b : Nat) (l : List UInt8) (s : ByteArray) (w : World) (h : Hid (Bd B b l w)) (hl : Hid (l.length ≤ 1000000000 ∧ s.size ≤ 1000000000)) :
    Calls Tryz.prog 52 #[.pointer (some ⟨b, 0, none⟩), .string s] w fun e w' => e = .returned (.tuple #[.int .i64 s.size, .nilIface]) ∧ Hid (Bd B b (l ++ s.data.toList) w') ∧ Below B w w' ∧ Hid (Kp b w w') := by
  obtain ⟨i0, hi, hz0, hz1, hz2⟩ := info_parts infoByte
  have hBw := h.out.2
  have he : Lib.byteCells (l ++ s.data.toList) = Lib.byteCells l ++ Lib.strCells s := by rw [Lib.byteCells_append, ← Lib.strCells_eq]
  have hlb := Lib.byteCells_length l
  have hl' := hl.out
  go_enter Tryz.func52, Tryz.ntmps52
  go_wp2_with fail
  refine (copyCheck_any B b l _ h.out).mono ?_
  rintro e w1 ⟨rfl, h1, hb1, hk1⟩
  obtain ⟨v, hB, hlt, hbk, hown, hne⟩ := h1.parts
  have c1 : w1.cell? ⟨b, 1, none⟩ = some v := by rw [Lib.cell_of_heap hbk]; rfl
  have hs1 := hb1.size
  clear h1
  go_wp2_with (at_builtin; refine Lib.wpList_append_own_stringF _ rfl _ _ 59 9 rfl B 5 i0 Tryz.underlying59 Tryz.underlying9 hi hz0 hz1 hz2 _ _ _ rfl hown s rfl ?c3 ?c4 ?c5 ?_)
  case c3 => unfold maxLen; omega
  case c4 => omega
  case c5 => omega
  intro v' w2 hown' hgrow _
  have hb2 : w2.heap[b]? = some (.cells #[.pointer (some ⟨b, 0, none⟩), v] 61) := by
    rw [hgrow.block b hlt (fun e => hne e.symm)]
    exact hbk
  have d1 : w2.cell? ⟨b, 1, none⟩ = some v := by rw [Lib.cell_of_heap hb2]; rfl
  have f1 : w2.frozen? ⟨b, 1, none⟩ = false := Lib.frozen_of_heap hb2 1
  obtain ⟨ao, n', cap, rfl⟩ : ∃ ao n' cap, v' = .slice ao n' cap := by
    rcases hown'.2 with ⟨hv, _⟩ | ⟨g, cap, cur, fz, hv, _⟩
    · exact ⟨_, _, _, hv⟩
    · exact ⟨_, _, _, hv⟩
  go_wp2
  go_ret2
  have hb3 : Below B w (w2.setCell ⟨b, 1, none⟩ (.slice ao n' cap)) := (hb1.grown hgrow (by omega) (fun k hk => (hown.lt k hk).1)).setCell (p := ⟨b, 1, none⟩) hB _
  refine ⟨rfl, Lib.hid ⟨Or.inr ?_, Nat.le_trans hBw hb3.size⟩, hb3, Lib.hid ((hk1.grown hgrow (Lib.ownsRowF_kind hown)).setCell ⟨b, 1, none⟩ rfl _)⟩
  rw [he]
  exact Lib.BuilderAtF.put (T := 61) (e := 5) hB hb2 (bs' := Lib.byteCells l ++ Lib.strCells s) (by rw [List.length_append, Lib.byteCells_length, Lib.strCells_length]; exact hown') (by decide)

theorem builderString_any (B b : Nat) (l : List UInt8) (w : World) (h : Hid (Bd B b l w)) :
    Calls Tryz.prog 27 #[.pointer (some ⟨b, 0, none⟩)] w fun e w' => e = .returned (.string ⟨l.toArray⟩) ∧ Below B w w' := by
  refine (Tryz.Builder_String_any_k B b l w h.out.1 h.out.2).mono ?_
  rintro e w' ⟨rfl, _, h2, _⟩
  exact ⟨rfl, h2⟩

/-- the table that Itoa reads, whatever is done from block B on -/
abbrev Tab (B : Nat) (w : World) : Prop := Lib.TabBelow Tryz.prog B w "internal/strconv.uint64pow10" .u64 Lib.pow10Tab
theorem below_grow (w : World) (k : Nat) (os : Array Obj) : Below w.heap.size w (Sort.grow (w.drewN k) os) :=
  ⟨rfl, rfl, rfl, by simp [Sort.grow, World.drewN], fun k hk => by simp [Sort.grow, World.drewN, Array.getElem?_append, hk]⟩
theorem itoa_any (n : Int) (h : -9223372036854775808 ≤ n ∧ n ≤ 9223372036854775807) (w : World) (B : Nat) (hT : Hid (Tab B w)) :
    Calls Tryz.prog 54 #[.int .i64 n] w fun e w' => e = .returned (.string ⟨(Lib.itoa n).toArray⟩) ∧ Below w.heap.size w w' :=
  (Tryz.strconv_Itoa n h.1 h.2 w hT.out.here).mono fun _ _ ⟨he, k, os, hw⟩ => ⟨he, by rw [hw]; exact below_grow w k os⟩
theorem tab_on {B : Nat} {w w1 : World} (h : Hid (Tab B w)) (hb : Below B w w1) : Hid (Tab B w1) := Lib.hid (h.out.on hb)
theorem Tab.mono {B C : Nat} {w : World} (h : Tab B w) (hc : B ≤ C) : Tab C w := fun w' hb => h w' (hb.mono hc)
end Go.Proofs.YtemacokojdeimaaGreatDoor
