/- What the claims of layer 3 share, part 11: several texts one behind the other. -/
import Derived.Test.YtidcedilfhmllaaDoorZ01
import Derived.Test.YtidcedilfhmllaaDoorZ10
import Derived.Test.YtidcedilfhmllaaDoorZ08
import Derived.Lib.FrozenHead2
import Derived.Lib.OthersKept
import Derived.Lib.AppendIntMem
import Derived.Test.YtidcedilfhmllaaDoorZ04
set_option linter.unusedSimpArgs false
set_option linter.unusedVariables false
/- A strings.Builder that a call has made: what its methods leave, and what stands beside it. -/
namespace Go.Proofs.YtidcedilfhmllaaDoor
open Go.RowKit

theorem bdAt_below {T e : TypeId} {B b : Nat} {p : Value} {bs : List Value} {W W' : World} (h : Lib.BuilderAtF T e B b p bs W) (hb : Below W.heap.size W W') : Lib.BuilderAtF T e B b p bs W' := by
  obtain ⟨hB, v, hbk, ⟨h1, h2⟩, hne⟩ := h
  refine ⟨hB, v, (hb.block b (Array.getElem?_eq_some_iff.1 hbk).1).trans hbk, ⟨h1, ?_⟩, hne⟩
  rcases h2 with h2 | ⟨g, cap, cur, fz, hv, hBg, hg, r⟩
  · exact .inl h2
  · exact .inr ⟨g, cap, cur, fz, hv, hBg, (hb.block g (Array.getElem?_eq_some_iff.1 hg).1).trans hg, r⟩
/-- a builder in block b that holds these bytes; what lies below B is not its own -/
def Bd (B b : Nat) (l : List UInt8) (W : World) : Prop := Lib.IsBuilderF 129 5 B b (Lib.byteCells l) W ∧ B ≤ W.heap.size
theorem Bd.below {B b : Nat} {l : List UInt8} {W W' : World} (h : Bd B b l W) (hb : Below W.heap.size W W') : Bd B b l W' := ⟨h.1.elim (fun x => .inl (bdAt_below x hb)) (fun x => .inr (bdAt_below x hb)), Nat.le_trans h.2 hb.size⟩
/-- what stands beside a builder -/
def Kp (b : Nat) (W W' : World) : Prop := Lib.OthersKept 5 (some b) W W'
theorem Kp.of {b : Nat} {W W' : World} (hb : Below W.heap.size W W') : Kp b W W' := fun k _ h _ _ => (hb.block k (Array.getElem?_eq_some_iff.1 h).1).trans h
theorem Kp.trans {b : Nat} {W X Y : World} (h : Kp b W X) (k : Kp b X Y) : Kp b W Y := Lib.OthersKept.trans h k
/-- a row of integers -/
def RowAt (W : World) (g : Nat) (ns : List Int) : Prop := W.heap[g]? = some (.cells (ns.map (Value.int .i64)).toArray 3)
theorem RowAt.kept {W W' : World} {g b : Nat} {ns : List Int} (h : RowAt W g ns) (k : Kp b W W') (hg : g ≠ b) : RowAt W' g ns := k g _ h (fun e => hg (Option.some.inj e)) (fun c fz e => by cases e)
theorem RowAt.lt {W : World} {g : Nat} {ns : List Int} (h : RowAt W g ns) : g < W.heap.size := (Array.getElem?_eq_some_iff.1 h).1
theorem RowAt.cell {W : World} {g : Nat} {ns : List Int} (h : RowAt W g ns) {k : Nat} (hk : k < ns.length) : W.cell? ⟨g, k, none⟩ = some (.int .i64 (ns.getD k 0)) := by
  have h' : W.heap[g]? = some (.cells (ns.map (Value.int .i64)).toArray 3) := h
  simp [World.cell?, h', hk]
theorem row_new (W : World) (ns : List Int) : RowAt (W.alloc (Obj.cells (ns.map (Value.int .i64)).toArray 3)) W.heap.size ns := by
  show (W.heap.push (Obj.cells (ns.map (Value.int .i64)).toArray 3))[W.heap.size]? = some _
  exact Array.getElem?_push_size

theorem bd_new (W : World) : Bd W.heap.size W.heap.size [] (W.alloc (.cells #[.pointer none, .slice none 0 0] 129)) :=
  ⟨Lib.IsBuilderF.of (Lib.fresh_isBuilder 129 5 W), by simp⟩

theorem infoByte : (Tryd.prog.info? 5).map (fun i => (i.zero, i.size, i.bytes)) = some (some (.int .u8 0), 1, 1) := by kernel_rfl
theorem sizeBuilder : (Tryd.prog.info? 129).map (fun j => j.size) = some 2 := by kernel_rfl

/-- a builder whose address is its own -/
def Used (B b : Nat) (l : List UInt8) (W : World) : Prop := Lib.BuilderAtF 129 5 B b (.pointer (some ⟨b, 0, none⟩)) (Lib.byteCells l) W

set_option maxHeartbeats 1000000 in
set_option maxRecDepth 100000 in
theorem copyCheck_used (b : Nat) (w : World) (h0 : w.cell? ⟨b, 0, none⟩ = some (.pointer (some ⟨b, 0, none⟩))) :
    Calls Tryd.prog 103 #[.pointer (some ⟨b, 0, none⟩)] w fun e w' => e = .returned (.tuple #[]) ∧ w' = w := by
  obtain ⟨j, hj, _⟩ := Option.map_eq_some_iff.1 sizeBuilder
  go_enter Tryd.func103, Tryd.ntmps103
  go_wp2
  rw [Lib.run_neq_ptr_same w _ Tryd.underlying126 hj]
  go_wp2
  refine bodyPost_end (v := .tuple #[]) (by simp [results, Tryd.results103, go_sem]) rfl ?_
  exact ⟨rfl, rfl⟩

set_option maxHeartbeats 1000000 in
set_option maxRecDepth 100000 in
theorem copyCheck_fresh (b : Nat) (w : World) (h0 : w.cell? ⟨b, 0, none⟩ = some (.pointer none)) (hsh : w.shape? b = some (129, 2)) (hfz : w.frozen? ⟨b, 0, none⟩ = false) :
    Calls Tryd.prog 103 #[.pointer (some ⟨b, 0, none⟩)] w fun e w' => e = .returned (.tuple #[]) ∧ w' = w.setCell ⟨b, 0, none⟩ (.pointer (some ⟨b, 0, none⟩)) := by
  obtain ⟨j, hj, hjs⟩ := Option.map_eq_some_iff.1 sizeBuilder
  go_enter Tryd.func103, Tryd.ntmps103
  go_wp2
  rw [Lib.run_to_unsafe w ⟨b, 0, none⟩ Tryd.underlying126 Tryd.underlying162 hj (by rw [hjs]; decide) hsh (Nat.zero_lt_succ 1)]
  simp only [Result.andThen]
  rw [Oper.upon_value]
  go_wp2
  rw [run_callFunc_extern Tryd.func105 (by kernel_rfl) (by kernel_rfl) (by kernel_rfl) (e := Extern.AbiNoEscape.same) (by kernel_rfl), Lib.run_noEscape]
  simp only [Result.andThen]
  rw [Oper.upon_value]
  go_wp2
  rw [Lib.run_from_unsafe w ⟨b, 0, none⟩ Tryd.underlying162 Tryd.underlying126 hj hsh (by kernel_rfl)]
  simp only [Result.andThen]
  rw [Oper.upon_value]
  go_wp2
  refine bodyPost_end (v := .tuple #[]) (by simp [results, Tryd.results103, go_sem]) rfl ?_
  exact ⟨rfl, rfl⟩

theorem copyCheck_any (B b : Nat) (l : List UInt8) (w : World) (h : Bd B b l w) :
    Calls Tryd.prog 103 #[.pointer (some ⟨b, 0, none⟩)] w fun e w' => e = .returned (.tuple #[]) ∧ Used B b l w' ∧ Below B w w' ∧ Kp b w w' := by
  rcases h.1 with h | h
  · refine (copyCheck_fresh b w h.cell0 h.shape h.frozen0).mono ?_
    rintro e w' ⟨rfl, rfl⟩
    exact ⟨rfl, h.used _, (Below.refl B w).setCell (p := ⟨b, 0, none⟩) h.1 _, (Lib.OthersKept.refl _ _ w).setCell ⟨b, 0, none⟩ rfl _⟩
  · refine (copyCheck_used b w h.cell0).mono ?_
    rintro e w' ⟨rfl, rfl⟩
    exact ⟨rfl, h, Below.refl B _, Lib.OthersKept.refl _ _ _⟩

/-- a builder, opened: its row, its cells -/
theorem Used.parts {B b : Nat} {l : List UInt8} {W : World} (h : Used B b l W) : ∃ v, B ≤ b ∧ b < W.heap.size ∧ W.heap[b]? = some (.cells #[.pointer (some ⟨b, 0, none⟩), v] 129) ∧ W.ownsRowF B 5 1 v l.length (Lib.byteCells l) ∧ v.ownBlock ≠ some b := by
  have hlt := h.lt
  obtain ⟨hB, v, hb, ho, hn⟩ := h
  rw [Lib.byteCells_length] at ho
  exact ⟨v, hB, hlt, hb, ho, hn⟩

set_option maxHeartbeats 2000000 in
set_option maxRecDepth 100000 in
theorem writeByte_any (B b : Nat) (l : List UInt8) (c : UInt8) (z : Int) (hz : Hid (z = (c.toNat : Int))) (w : World) (h : Hid (Bd B b l w)) (hl : Hid (l.length ≤ 1000000000)) :
    Calls Tryd.prog 95 #[.pointer (some ⟨b, 0, none⟩), .int .u8 z] w fun e w' => e = .returned .nilIface ∧ Hid (Bd B b (l ++ [c]) w') ∧ Below B w w' ∧ Hid (Kp b w w') := by
  obtain ⟨i0, hi, hz0, hz1, hz2⟩ := info_parts infoByte
  have hBw := h.out.2
  have he : Lib.byteCells (l ++ [c]) = Lib.byteCells l ++ [.int .u8 z] := by rw [Lib.byteCells_append, hz.out]; rfl
  have hlb := Lib.byteCells_length l
  have hl' := hl.out
  go_enter Tryd.func95, Tryd.ntmps95
  go_wp2_with fail
  refine (copyCheck_any B b l _ h.out).mono ?_
  rintro e w1 ⟨rfl, h1, hb1, hk1⟩
  obtain ⟨v, hB, hlt, hbk, hown, hne⟩ := h1.parts
  have c1 : w1.cell? ⟨b, 1, none⟩ = some v := by rw [Lib.cell_of_heap hbk]; rfl
  have hs1 := hb1.size
  clear h1
  go_wp2_with (at_builtin; refine wpList_append_ownF _ rfl _ _ 127 rfl B 5 i0 (.int .u8 0) 1 1 Tryd.underlying127 hi hz0 hz1 hz2 rfl (by decide) _ _ _ rfl (hown.alloc _) ⟨w1.heap.size, 0, none⟩ 1 1 [.int .u8 z] rfl rfl ?c1 ?c2 ?c3 ?c4 ?c5 ?_)
  case c1 =>
    intro j u hj
    match j, hj with
    | 0, hj => simp at hj; subst hj; simp [Addr.add]
  case c2 => intro u hu; simp at hu; subst hu; rfl
  case c3 => unfold maxLen; omega
  case c4 => omega
  case c5 => simp; omega
  intro v' w2 hown' hgrow _
  have hb2 : w2.heap[b]? = some (.cells #[.pointer (some ⟨b, 0, none⟩), v] 129) := by
    rw [hgrow.block b (by simp; omega) (fun e => hne e.symm), Lib.alloc_old w1 _ b hlt]
    exact hbk
  have d1 : w2.cell? ⟨b, 1, none⟩ = some v := by rw [Lib.cell_of_heap hb2]; rfl
  have f1 : w2.frozen? ⟨b, 1, none⟩ = false := Lib.frozen_of_heap hb2 1
  obtain ⟨g, cap, rfl⟩ : ∃ g cap, v' = .slice (some ⟨g, 0, none⟩) (l.length + 1) cap := by
    rcases hown'.2 with ⟨_, h0⟩ | ⟨g, cap, cur, fz, hv, _⟩
    · omega
    · exact ⟨g, cap, hv⟩
  go_wp2
  go_ret
  have hb3 : Below B w (w2.setCell ⟨b, 1, none⟩ (.slice (some ⟨g, 0, none⟩) (l.length + 1) cap)) :=
    ((hb1.alloc (by omega) _).grown hgrow (by simp; omega) (fun k hk => (hown.lt k hk).1)).setCell (p := ⟨b, 1, none⟩) hB _
  refine ⟨rfl, Lib.hid ⟨Or.inr ?_, Nat.le_trans hBw hb3.size⟩, hb3, Lib.hid (((hk1.alloc _).grown hgrow (Lib.ownsRowF_kind (hown.alloc _))).setCell ⟨b, 1, none⟩ rfl _)⟩
  rw [he]
  exact Lib.BuilderAtF.put (T := 129) (e := 5) hB hb2 (bs' := Lib.byteCells l ++ [.int .u8 z]) (by rw [List.length_append, Lib.byteCells_length]; exact hown') (by decide)

set_option maxHeartbeats 2000000 in
set_option maxRecDepth 100000 in
theorem writeString_any (B b : Nat) (l : List UInt8) (s : ByteArray) (w : World) (h : Hid (Bd B b l w)) (hl : Hid (l.length ≤ 1000000000 ∧ s.size ≤ 1000000000)) :
    Calls Tryd.prog 94 #[.pointer (some ⟨b, 0, none⟩), .string s] w fun e w' => e = .returned (.tuple #[.int .i64 s.size, .nilIface]) ∧ Hid (Bd B b (l ++ s.data.toList) w') ∧ Below B w w' ∧ Hid (Kp b w w') := by
  obtain ⟨i0, hi, hz0, hz1, hz2⟩ := info_parts infoByte
  have hBw := h.out.2
  have he : Lib.byteCells (l ++ s.data.toList) = Lib.byteCells l ++ Lib.strCells s := by rw [Lib.byteCells_append, ← Lib.strCells_eq]
  have hlb := Lib.byteCells_length l
  have hl' := hl.out
  go_enter Tryd.func94, Tryd.ntmps94
  go_wp2_with fail
  refine (copyCheck_any B b l _ h.out).mono ?_
  rintro e w1 ⟨rfl, h1, hb1, hk1⟩
  obtain ⟨v, hB, hlt, hbk, hown, hne⟩ := h1.parts
  have c1 : w1.cell? ⟨b, 1, none⟩ = some v := by rw [Lib.cell_of_heap hbk]; rfl
  have hs1 := hb1.size
  clear h1
  go_wp2_with (at_builtin; refine Lib.wpList_append_own_stringF _ rfl _ _ 127 9 rfl B 5 i0 Tryd.underlying127 Tryd.underlying9 hi hz0 hz1 hz2 _ _ _ rfl hown s rfl ?c3 ?c4 ?c5 ?_)
  case c3 => unfold maxLen; omega
  case c4 => omega
  case c5 => omega
  intro v' w2 hown' hgrow _
  have hb2 : w2.heap[b]? = some (.cells #[.pointer (some ⟨b, 0, none⟩), v] 129) := by
    rw [hgrow.block b hlt (fun e => hne e.symm)]
    exact hbk
  have d1 : w2.cell? ⟨b, 1, none⟩ = some v := by rw [Lib.cell_of_heap hb2]; rfl
  have f1 : w2.frozen? ⟨b, 1, none⟩ = false := Lib.frozen_of_heap hb2 1
  obtain ⟨ao, n', cap, rfl⟩ : ∃ ao n' cap, v' = .slice ao n' cap := by
    rcases hown'.2 with ⟨hv, _⟩ | ⟨g, cap, cur, fz, hv, _⟩
    · exact ⟨_, _, _, hv⟩
    · exact ⟨_, _, _, hv⟩
  go_wp2
  go_ret2
  have hb3 : Below B w (w2.setCell ⟨b, 1, none⟩ (.slice ao n' cap)) := (hb1.grown hgrow (by omega) (fun k hk => (hown.lt k hk).1)).setCell (p := ⟨b, 1, none⟩) hB _
  refine ⟨rfl, Lib.hid ⟨Or.inr ?_, Nat.le_trans hBw hb3.size⟩, hb3, Lib.hid ((hk1.grown hgrow (Lib.ownsRowF_kind hown)).setCell ⟨b, 1, none⟩ rfl _)⟩
  rw [he]
  exact Lib.BuilderAtF.put (T := 129) (e := 5) hB hb2 (bs' := Lib.byteCells l ++ Lib.strCells s) (by rw [List.length_append, Lib.byteCells_length, Lib.strCells_length]; exact hown') (by decide)

theorem builderString_any (B b : Nat) (l : List UInt8) (w : World) (h : Hid (Bd B b l w)) :
    Calls Tryd.prog 74 #[.pointer (some ⟨b, 0, none⟩)] w fun e w' => e = .returned (.string ⟨l.toArray⟩) ∧ Below B w w' := by
  refine (Tryd.Builder_String_any_k B b l w h.out.1 h.out.2).mono ?_
  rintro e w' ⟨rfl, _, h2, _⟩
  exact ⟨rfl, h2⟩

/-- the table that Itoa reads, whatever is done from block B on -/
abbrev Tab (B : Nat) (w : World) : Prop := Lib.TabBelow Tryd.prog B w "internal/strconv.uint64pow10" .u64 Lib.pow10Tab
theorem below_grow (w : World) (k : Nat) (os : Array Obj) : Below w.heap.size w (Sort.grow (w.drewN k) os) :=
  ⟨rfl, rfl, rfl, by simp [Sort.grow, World.drewN], fun k hk => by simp [Sort.grow, World.drewN, Array.getElem?_append, hk]⟩
theorem itoa_any (n : Int) (h : -9223372036854775808 ≤ n ∧ n ≤ 9223372036854775807) (w : World) (B : Nat) (hT : Hid (Tab B w)) :
    Calls Tryd.prog 96 #[.int .i64 n] w fun e w' => e = .returned (.string ⟨(Lib.itoa n).toArray⟩) ∧ Below w.heap.size w w' :=
  (Tryd.strconv_Itoa n h.1 h.2 w hT.out.here).mono fun _ _ ⟨he, k, os, hw⟩ => ⟨he, by rw [hw]; exact below_grow w k os⟩
theorem tab_on {B : Nat} {w w1 : World} (h : Hid (Tab B w)) (hb : Below B w w1) : Hid (Tab B w1) := Lib.hid (h.out.on hb)
theorem Tab.mono {B C : Nat} {w : World} (h : Tab B w) (hc : B ≤ C) : Tab C w := fun w' hb => h w' (hb.mono hc)
end Go.Proofs.YtidcedilfhmllaaDoor

/- chain.printLine: a word and numbers, written into a builder. -/
namespace Go.Proofs.YtidcedilfhmllaaDoor
open Go.RowKit

/-- what stands while a line is written -/
structure PLs (B b g : Nat) (ns : List Int) (l : List UInt8) (w W : World) : Prop where
  d : Bd B b l W
  r : RowAt W g ns
  b : Below B w W
theorem PLs.below {B b g : Nat} {ns : List Int} {l : List UInt8} {w W W' : World} (h : PLs B b g ns l w W) (hb : Below W.heap.size W W') : PLs B b g ns l w W' := ⟨h.d.below hb, h.r.kept (Kp.of (b := g + 1) hb) (by omega), h.b.trans (hb.mono h.d.2)⟩

set_option maxRecDepth 100000 in
set_option maxHeartbeats 2000000 in
theorem pLine_any (B b g cap m : Nat) (ns : List Int) (l : List UInt8) (wd : ByteArray) (hm : Hid (ns.length = m)) (hn : Hid (∀ n ∈ ns, -9223372036854775808 ≤ n ∧ n ≤ 9223372036854775807)) (hg : Hid (g ≠ b))
    (hl : Hid (l.length ≤ 100000000 ∧ wd.size ≤ 1000 ∧ m ≤ 1000)) (hm2 : m ≤ 1000) (w : World) (hT : Hid (Tab B w)) (hP : Hid (PLs B b g ns l w w)) :
    Calls Tryd.prog 73 #[.pointer (some ⟨b, 0, none⟩), .string wd, .slice (some ⟨g, 0, none⟩) m cap] w fun e w' => e = .returned (.tuple #[]) ∧ Hid (PLs B b g ns (l ++ (wd.data.toList ++ Tx.sp ns) ++ [10]) w w') := by
  have hwd : wd.data.toList.length = wd.size := by simp
  replace hwd := Lib.hid hwd
  go_enter Tryd.func73, Tryd.ntmps73
  go_wp2_with fail
  refine (writeString_any B b l wd w (Lib.hid hP.out.d) (Lib.hid (by have := hl.out; omega))).mono ?_
  rintro e w1 ⟨rfl, h1, b1, k1⟩
  have hP1 : Hid (PLs B b g ns (l ++ wd.data.toList) w w1) := Lib.hid ⟨h1.out, hP.out.r.kept k1.out hg.out, b1⟩
  clear h1 b1 k1
  go_wp2
  go_loopw [13] (fun i wr => ∃ k : Nat, k ≤ m ∧ i = .int .i64 k ∧ Hid (PLs B b g ns (l ++ (wd.data.toList ++ Tx.sp (ns.take k))) w wr)) (fun i _ => m - (RowKit.intOf i).toNat)
  case atStart => exact ⟨0, Nat.zero_le _, rfl, Lib.hid (by simpa [Tx.sp] using hP1.out)⟩
  case round =>
    obtain ⟨k, hk, rfl, hr⟩ := hrel
    by_cases hlt : k < m
    · have hlt2 : k < ns.length := by have := hm.out; omega
      have hi5 : (k : Int) < (m : Int) := by omega
      have hc := hr.out.r.cell hlt2
      have hx := hn.out (ns.getD k 0) (by rw [List.getD, List.getElem?_eq_getElem hlt2]; exact List.getElem_mem hlt2)
      have hst := Lib.hid (Tx.sp_take hlt2)
      have hsl := Tx.sp_len (ns.take k) (fun x hx => hn.out x (List.mem_of_mem_take hx))
      have hll : Hid ((l ++ (wd.data.toList ++ Tx.sp (ns.take k))).length ≤ 200000000) := Lib.hid (by
        have h1 := hl.out
        have h2 := hwd.out
        simp only [List.length_append, List.length_take] at hsl ⊢
        omega)
      obtain ⟨z, hz⟩ : ∃ z, ns.getD k 0 = z := ⟨_, rfl⟩
      rw [hz] at hc hx hst
      replace hx := Lib.hid hx
      have hil := Lib.hid (Lib.itoa_length_le z hx.out.1 hx.out.2)
      clear hz hsl
      go_wp2_with fail
      refine (writeByte_any B b _ 32 32 (Lib.hid rfl) _ (Lib.hid hr.out.d) (Lib.hid (by have := hll.out; omega))).mono ?_
      rintro e w2 ⟨rfl, h2, b2, k2⟩
      have hP2 : Hid (PLs B b g ns (l ++ (wd.data.toList ++ Tx.sp (ns.take k)) ++ [32]) w w2) := Lib.hid ⟨h2.out, hr.out.r.kept k2.out hg.out, hr.out.b.trans b2⟩
      clear h2 b2 k2 hr hc
      go_wp2_with fail
      refine (itoa_any z hx.out w2 B (tab_on hT hP2.out.b)).mono ?_
      rintro e w3 ⟨rfl, b3⟩
      have hP3 := Lib.hid (hP2.out.below b3)
      clear hP2 b3
      go_wp2_with fail
      refine (writeString_any B b _ _ w3 (Lib.hid hP3.out.d) (Lib.hid (by have h1 := hll.out; have h2 := hil.out; simp only [List.length_append, List.length_cons, List.length_nil] at h1 ⊢; refine ⟨by omega, ?_⟩; show (Lib.itoa z).toArray.size ≤ _; simp; omega))).mono ?_
      rintro e w4 ⟨rfl, h4, b4, k4⟩
      have hP4 : Hid (PLs B b g ns (l ++ (wd.data.toList ++ Tx.sp (ns.take (k + 1)))) w w4) := Lib.hid ⟨by
        have e := h4.out
        rw [hst.out]
        simpa using e, hP3.out.r.kept k4.out hg.out, hP3.out.b.trans b4⟩
      clear h4 b4 k4 hP3
      go_wp2
      go_roundw
      case rel => exact ⟨k + 1, by omega, by go_num, hP4⟩
      case measure => first | (simp [RowKit.intOf]; done) | (simp [RowKit.intOf]; omega) | omega
    · obtain rfl : k = m := by omega
      have hi5 : ¬ (k : Int) < (k : Int) := by omega
      have e : ns.take k = ns := List.take_of_length_le (by have := hm.out; omega)
      rw [e] at hr
      clear e
      have hsl := Tx.sp_len ns hn.out
      have hll : Hid ((l ++ (wd.data.toList ++ Tx.sp ns)).length ≤ 1000000000) := Lib.hid (by
        have h1 := hl.out
        have h2 := hwd.out
        have h3 := hm.out
        simp only [List.length_append]
        omega)
      clear hsl
      go_wp2_with fail
      refine (writeByte_any B b _ 10 10 (Lib.hid rfl) _ (Lib.hid hr.out.d) hll).mono ?_
      rintro e w2 ⟨rfl, h2, b2, k2⟩
      have hP2 : Hid (PLs B b g ns (l ++ (wd.data.toList ++ Tx.sp ns) ++ [10]) w w2) := Lib.hid ⟨h2.out, hr.out.r.kept k2.out hg.out, hr.out.b.trans b2⟩
      clear h2 b2 k2 hr
      go_wp2
      refine bodyPost_end (v := .tuple #[]) (by simp [results, Tryd.results73, go_sem]) rfl ?_
      exact ⟨rfl, hP2⟩
end Go.Proofs.YtidcedilfhmllaaDoor

/- plate.Print of a valid shop. -/
namespace Pl
open Go.Lib Tx
/-- the text behind k workings -/
def pfP (s m : Int) (L : List Wk) (k : Nat) : List UInt8 := (shopB ++ sp [s, m]) ++ [10] ++ (L.take k).flatMap fun l => (workB ++ sp [l.a, l.b, l.t]) ++ [10]
theorem pfP_succ {s m : Int} {L : List Wk} {k : Nat} (h : k < L.length) : pfP s m L (k + 1) = pfP s m L k ++ (workB ++ sp [(L.getD k noW).a, (L.getD k noW).b, (L.getD k noW).t]) ++ [10] := by
  unfold pfP
  rw [List.take_succ_eq_append_getElem h, List.flatMap_append]
  simp [h]
theorem pfP_all (s m : Int) (L : List Wk) (k : Nat) (h : L.length ≤ k) : pfP s m L k = prtP s m L := by
  unfold pfP prtP lineW
  rw [List.take_of_length_le h]
  have e : ∀ l : Wk, jn 32 (workB :: [l.a, l.b, l.t].map itoa) = workB ++ sp [l.a, l.b, l.t] := fun l => jn_sp _ _
  have e2 : jn 32 (shopB :: [s, m].map itoa) = shopB ++ sp [s, m] := jn_sp _ _
  simp only [e, e2]
  simp
theorem flat_lenP {α : Type} (f : α → List UInt8) (c : Nat) : ∀ L : List α, (∀ x ∈ L, (f x).length ≤ c) → (L.flatMap f).length ≤ c * L.length
  | [], _ => by simp
  | x :: r, h => by
    have i := flat_lenP f c r (fun y hy => h y (List.mem_cons_of_mem _ hy))
    have := h x List.mem_cons_self
    simp only [List.flatMap_cons, List.length_append, List.length_cons, Nat.mul_add, Nat.mul_one]
    omega
theorem pfP_len {s m : Int} {L : List Wk} (k : Nat) (hs : R64 s ∧ R64 m) (h : ∀ l ∈ L, R64 l.a ∧ R64 l.b ∧ R64 l.t) (hL : L.length ≤ 1000) : (pfP s m L k).length ≤ 200000 := by
  have h1 := sp_len [s, m] (fun x hx => by
    simp only [List.mem_cons, List.not_mem_nil, or_false] at hx
    rcases hx with rfl | rfl
    · (have q9 := hs.1; unfold Tx.R64 at q9; omega)
    · (have q9 := hs.2; unfold Tx.R64 at q9; omega))
  have h2 := flat_lenP (fun l : Wk => (workB ++ sp [l.a, l.b, l.t]) ++ [10]) 100 (L.take k) (fun l hl => by
    have hl := h l (List.mem_of_mem_take hl)
    have := sp_len [l.a, l.b, l.t] (fun x hx => by
      simp only [List.mem_cons, List.not_mem_nil, or_false] at hx
      rcases hx with rfl | rfl | rfl
      · (have q9 := hl.1; unfold Tx.R64 at q9; omega)
      · (have q9 := hl.2.1; unfold Tx.R64 at q9; omega)
      · (have q9 := hl.2.2; unfold Tx.R64 at q9; omega))
    simp only [List.length_append, List.length_cons, List.length_nil, workB] at this ⊢
    omega)
  have h3 : (L.take k).length ≤ 1000 := by rw [List.length_take]; omega
  unfold pfP
  simp only [List.length_append, List.length_cons, List.length_nil, shopB] at h1 ⊢
  omega
end Pl
namespace Go.Proofs.YtidcedilfhmllaaDoor
open Go.RowKit

theorem row_new' (W : World) (ns : List Int) (g : Nat) (hg : g = W.heap.size) : RowAt (W.alloc (Obj.cells (ns.map (Value.int .i64)).toArray 3)) g ns := by subst hg; exact row_new W ns
theorem cell_b {B : Nat} {W W' : World} {p : Addr} {x : Value} (h : W.cell? p = some x) (hb : Below B W W') (hp : p.block < B) : W'.cell? p = some x := (hb.cell hp).trans h

set_option maxRecDepth 100000 in
set_option maxHeartbeats 4000000 in
theorem pPrint_ok (s mm : Int) (a : Option Addr) (m cap : Nat) (L : List Pl.Wk) (hm : Hid (L.length = m)) (hm9 : m ≤ 300) (hR : Hid ((Tx.R64 s ∧ Tx.R64 mm) ∧ ∀ l ∈ L, Tx.R64 l.a ∧ Tx.R64 l.b ∧ Tx.R64 l.t)) (w : World) (hL : Hid (WksAt w a L)) (hT : Hid (Tab w.heap.size w))
    (HC : Hid (∀ W : World, Below w.heap.size w W → Calls Tryd.prog 62 #[.agg #[.int .i64 s, .int .i64 mm, .slice a m cap]] W fun e w' => e = .returned (.int .i64 0) ∧ Below W.heap.size W w')) :
    Calls Tryd.prog 39 #[.agg #[.int .i64 s, .int .i64 mm, .slice a m cap]] w fun e w' => e = .returned (.tuple #[.string ⟨(Pl.prtP s mm L).toArray⟩, .int .i64 0]) ∧ Below w.heap.size w w' := by
  have hlen : Hid (∀ k, (Pl.pfP s mm L k).length ≤ 200000) := Lib.hid fun k => Pl.pfP_len k hR.out.1 hR.out.2 (by have := hm.out; omega)
  go_enter Tryd.func39, Tryd.ntmps39
  go_wp2_with fail
  refine (HC.out _ (by repeat (first | with_reducible exact Below.refl _ _ | with_reducible assumption | refine below_drewN ?_ _ | refine Below.drew ?_ | refine Below.alloc ?_ (by first | (simp; done) | (simp; omega) | omega) _ | refine Below.setCell ?_ (by first | (simp; done) | (simp; omega) | omega) _ | refine Below.trans ?_ (Below.mono (by assumption) (by first | (simp; done) | (simp; omega) | omega))))).mono ?_
  rintro e w1 ⟨rfl, hb1⟩
  have k0 : w1.cell? ⟨w.heap.size, 0, none⟩ = some (.int .i64 s) := kept1 (by simp [go_sem]) hb1
  have k9 : w1.cell? ⟨w.heap.size, 1, none⟩ = some (.int .i64 mm) := kept1 (by simp [go_sem]) hb1
  have k1 : w1.cell? ⟨w.heap.size, 2, none⟩ = some (.slice a m cap) := kept1 (by simp [go_sem]) hb1
  have hbw : Below w.heap.size w w1 := (by repeat (first | with_reducible exact Below.refl _ _ | with_reducible assumption | refine below_drewN ?_ _ | refine Below.drew ?_ | refine Below.alloc ?_ (by first | (simp; done) | (simp; omega) | omega) _ | refine Below.setCell ?_ (by first | (simp; done) | (simp; omega) | omega) _ | refine Below.trans ?_ (Below.mono (by assumption) (by first | (simp; done) | (simp; omega) | omega))))
  have hB : Hid (w.heap.size < w1.heap.size) := Lib.hid (block_lt_of_cell k0)
  have hB1 := hB.out
  clear hb1 HC
  go_wp2_with fail
  have hT1 : Hid (Tab w1.heap.size w1) := Lib.hid (Tab.mono (hT.out.on hbw) (Nat.le_of_lt hB.out))
  refine (pLine_any w1.heap.size w1.heap.size (w1.heap.size + 1) 2 2 [s, mm] [] ⟨#[115, 104, 111, 112]⟩ (Lib.hid rfl) (Lib.hid (fun x hx => by
      simp only [List.mem_cons, List.not_mem_nil, or_false] at hx
      rcases hx with rfl | rfl
      · (have q9 := hR.out.1.1; unfold Tx.R64 at q9; omega)
      · (have q9 := hR.out.1.2; unfold Tx.R64 at q9; omega))) (Lib.hid (by omega)) (Lib.hid (by decide)) (by decide) ((w1.alloc (Obj.cells #[.pointer none, .slice none 0 0] 129)).alloc (Obj.cells #[.int .i64 s, .int .i64 mm] 3)) (tab_on hT1 (by repeat (first | with_reducible exact Below.refl _ _ | with_reducible assumption | refine below_drewN ?_ _ | refine Below.drew ?_ | refine Below.alloc ?_ (by first | (simp; done) | (simp; omega) | omega) _ | refine Below.setCell ?_ (by first | (simp; done) | (simp; omega) | omega) _ | refine Below.trans ?_ (Below.mono (by assumption) (by first | (simp; done) | (simp; omega) | omega)))))
    (Lib.hid ⟨(bd_new w1).below (by repeat (first | with_reducible exact Below.refl _ _ | with_reducible assumption | refine below_drewN ?_ _ | refine Below.drew ?_ | refine Below.alloc ?_ (by first | (simp; done) | (simp; omega) | omega) _ | refine Below.setCell ?_ (by first | (simp; done) | (simp; omega) | omega) _ | refine Below.trans ?_ (Below.mono (by assumption) (by first | (simp; done) | (simp; omega) | omega)))), row_new' _ [s, mm] _ (by simp), Below.refl _ _⟩)).mono ?_
  rintro e w2 ⟨rfl, h2⟩
  have hb2 : Below w1.heap.size w1 w2 := by
    refine Below.trans ?_ h2.out.b
    exact (by repeat (first | with_reducible exact Below.refl _ _ | with_reducible assumption | refine below_drewN ?_ _ | refine Below.drew ?_ | refine Below.alloc ?_ (by first | (simp; done) | (simp; omega) | omega) _ | refine Below.setCell ?_ (by first | (simp; done) | (simp; omega) | omega) _ | refine Below.trans ?_ (Below.mono (by assumption) (by first | (simp; done) | (simp; omega) | omega))))
  have hd : Hid (Bd w1.heap.size w1.heap.size (Pl.pfP s mm L 0) w2) := Lib.hid (by simpa [Pl.pfP, Pl.shopB] using h2.out.d)
  replace k1 := cell_b k1 hb2 hB.out
  have hT2 : Hid (Tab w1.heap.size w2) := tab_on hT1 hb2
  have hbw2 : Below w.heap.size w w2 := hbw.trans (hb2.mono (Nat.le_of_lt hB.out))
  clear h2 hb2 hbw hT1 k0 k9 hB1
  have hz2 := hd.out.2
  generalize w1.heap.size = B at hd hT2 hB hz2 ⊢
  go_wp2
  go_loopw [22] (fun i wr => ∃ k : Nat, k ≤ m ∧ i = .int .i64 k ∧ Hid (Bd B B (Pl.pfP s mm L k) wr) ∧ Hid (Tab B wr) ∧ Below w.heap.size w wr) (fun i _ => m - (RowKit.intOf i).toNat)
  case atStart => exact ⟨0, Nat.zero_le _, rfl, hd, hT2, hbw2⟩
  case round =>
    obtain ⟨k, hk, rfl, hd, hT, hb⟩ := hrel
    by_cases hlt : k < m
    · obtain ⟨f, t, mo, hl⟩ : ∃ f t mo, L.getD k Pl.noW = ⟨f, t, mo⟩ := ⟨_, _, _, rfl⟩
      have hkL : k < L.length := by have := hm.out; omega
      have hl3 := (hL.out k hkL)
      obtain ⟨x, rfl, hl3⟩ := hl3
      have ⟨hc0, hc1, hc2⟩ := hl3.below hb
      have hr := hR.out.2 (L.getD k Pl.noW) (by rw [List.getD, List.getElem?_eq_getElem hkL]; exact List.getElem_mem hkL)
      have hst := Lib.hid (Pl.pfP_succ (s := s) (m := mm) hkL)
      rw [hl] at hc0 hc1 hc2 hr hst
      simp only at hr
      replace hr := Lib.hid hr
      clear hl3 hl
      have hi5 : (k : Int) < (m : Int) := by omega
      go_wp2_with fail
      refine (pLine_any B B (wr.heap.size + 1) 3 3 [f, t, mo] (Pl.pfP s mm L k) ⟨#[119, 111, 114, 107]⟩ (Lib.hid rfl) (Lib.hid (fun x hx => by
          simp only [List.mem_cons, List.not_mem_nil, or_false] at hx
          rcases hx with rfl | rfl | rfl
          · (have q9 := hr.out.1; unfold Tx.R64 at q9; omega)
          · (have q9 := hr.out.2.1; unfold Tx.R64 at q9; omega)
          · (have q9 := hr.out.2.2; unfold Tx.R64 at q9; omega))) (Lib.hid (by have := hd.out.2; omega)) (Lib.hid (by have h1 := hlen.out k; exact ⟨by omega, by decide, by decide⟩)) (by decide) ((wr.alloc (Obj.cells #[.int .i64 f, .int .i64 t, .int .i64 mo] 61)).alloc (Obj.cells #[.int .i64 f, .int .i64 t, .int .i64 mo] 3)) (tab_on hT (Below.mono (by repeat (first | with_reducible exact Below.refl _ _ | with_reducible assumption | refine below_drewN ?_ _ | refine Below.drew ?_ | refine Below.alloc ?_ (by first | (simp; done) | (simp; omega) | omega) _ | refine Below.setCell ?_ (by first | (simp; done) | (simp; omega) | omega) _ | refine Below.trans ?_ (Below.mono (by assumption) (by first | (simp; done) | (simp; omega) | omega)))) hd.out.2))
        (Lib.hid ⟨hd.out.below (by repeat (first | with_reducible exact Below.refl _ _ | with_reducible assumption | refine below_drewN ?_ _ | refine Below.drew ?_ | refine Below.alloc ?_ (by first | (simp; done) | (simp; omega) | omega) _ | refine Below.setCell ?_ (by first | (simp; done) | (simp; omega) | omega) _ | refine Below.trans ?_ (Below.mono (by assumption) (by first | (simp; done) | (simp; omega) | omega)))), row_new' _ [f, t, mo] _ (by simp), Below.refl _ _⟩)).mono ?_
      rintro e w3 ⟨rfl, h3⟩
      have hb3 : Below B wr w3 := by
        refine Below.trans ?_ h3.out.b
        exact Below.mono (by repeat (first | with_reducible exact Below.refl _ _ | with_reducible assumption | refine below_drewN ?_ _ | refine Below.drew ?_ | refine Below.alloc ?_ (by first | (simp; done) | (simp; omega) | omega) _ | refine Below.setCell ?_ (by first | (simp; done) | (simp; omega) | omega) _ | refine Below.trans ?_ (Below.mono (by assumption) (by first | (simp; done) | (simp; omega) | omega)))) hd.out.2
      have hd3 : Hid (Bd B B (Pl.pfP s mm L (k + 1)) w3) := Lib.hid (by rw [hst.out]; exact h3.out.d)
      have hT3 := tab_on hT hb3
      have hbw3 : Below w.heap.size w w3 := hb.trans (hb3.mono (Nat.le_of_lt hB.out))
      clear h3 hb3 hT hd hb
      go_wp2
      go_roundw
      case rel => exact ⟨k + 1, by omega, by go_num, hd3, hT3, hbw3⟩
      case measure => first | (simp [RowKit.intOf]; done) | (simp [RowKit.intOf]; omega) | omega
    · obtain rfl : k = m := by omega
      have hi5 : ¬ (k : Int) < (k : Int) := by omega
      go_wp2_with fail
      refine (builderString_any B B _ wr hd).mono ?_
      rintro e w3 ⟨rfl, hb3⟩
      have hbw3 : Below w.heap.size w w3 := hb.trans (hb3.mono (Nat.le_of_lt hB.out))
      rw [Pl.pfP_all s mm L k (by have := hm.out; omega)]
      go_wp2
      go_ret2
      exact ⟨rfl, hbw3⟩

end Go.Proofs.YtidcedilfhmllaaDoor
