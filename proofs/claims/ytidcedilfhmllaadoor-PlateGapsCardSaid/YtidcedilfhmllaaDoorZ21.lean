/- What the claims of layer 3 share, part 21: several texts one behind the other. -/
import Derived.Test.YtidcedilfhmllaaDoorZ04
import Derived.Test.YtidcedilfhmllaaDoorZ16
import Derived.Test.YtidcedilfhmllaaDoorZ14
import Derived.Test.YtidcedilfhmllaaDoorZ17
import Derived.Test.YtidcedilfhmllaaDoorZ08
import Derived.Laws.AppendOwnNone
import Derived.Lib.AppendZerosOnto
import Derived.Lib.SliceRun
import Derived.Lib.Walk
set_option linter.unusedSimpArgs false
set_option linter.unusedVariables false
/- Rows of cells wherever they lie; slices.Concat of two lists of workings. -/
namespace Go.Proofs.YtidcedilfhmllaaDoor
open Go.RowKit

/-- cells in a row, wherever they lie -/
def CsAt (w : World) (a : Option Addr) (cs : List Value) : Prop := ∀ j u, cs[j]? = some u → ∃ x, a = some x ∧ w.cell? (x.add j) = some u
theorem CsAt.below {w W : World} {a : Option Addr} {cs : List Value} (h : CsAt w a cs) (hb : Below w.heap.size w W) : CsAt W a cs := fun j u hu => by
  obtain ⟨x, rfl, h1⟩ := h j u hu
  exact ⟨x, rfl, kept1 h1 hb⟩
theorem CsAt.none {w : World} {cs : List Value} (h : CsAt w none cs) : cs = [] := by
  cases cs with
  | nil => rfl
  | cons u r =>
    obtain ⟨x, hx, _⟩ := h 0 u rfl
    cases hx
theorem cs_of_owns {w : World} {B n size : Nat} {e : TypeId} {v : Value} {cs : List Value} (h : w.ownsRow B e size v n cs) : ∃ a cap, v = .slice a n cap ∧ CsAt w a cs ∧ (a = none → cap = 0) := by
  obtain ⟨hl, h2⟩ := h
  rcases h2 with ⟨hv, h0⟩ | ⟨g, cap, cur, hv, hb, hg, hle, hcm, hs, ht⟩
  · refine ⟨none, 0, by rw [hv, h0], fun j u hu => ?_, fun _ => rfl⟩
    rw [h0] at hl
    have : cs = [] := List.length_eq_zero_iff.1 (by omega)
    rw [this] at hu
    simp at hu
  · refine ⟨_, cap, hv, fun j u hu => ⟨_, rfl, ?_⟩, fun h => by cases h⟩
    have hj : j < n * size := by have := (List.getElem?_eq_some_iff.1 hu).1; omega
    have e1 : (⟨g, 0, none⟩ : Addr).add j = ⟨g, j, none⟩ := by unfold Addr.add; split <;> simp_all
    rw [e1]
    rw [← ht, List.getElem?_take_of_lt hj, Array.getElem?_toList] at hu
    simp [World.cell?, hg, hu]
theorem cs_one {w : World} {g : Nat} {v : Value} (h : w.cell? ⟨g, 0, none⟩ = some v) : CsAt w (some ⟨g, 0, none⟩) [v] := fun j u hu => by
  match j, hu with
  | 0, hu =>
    simp at hu
    subst hu
    exact ⟨_, rfl, h⟩
  | j + 1, hu => simp at hu
theorem grownBy_refl2 (w : World) (r : Option Nat) : w.grownBy w r := ⟨rfl, rfl, rfl, Nat.le_refl _, fun _ _ _ => rfl⟩
theorem below_grown2 {w0 w w' : World} {v : Value} {e : TypeId} {size n : Nat} {xs : List Value} (hb : Below w0.heap.size w0 w) (ho : w.ownsRow w0.heap.size e size v n xs) (hg : w.grownBy w' v.ownBlock) : Below w0.heap.size w0 w' :=
  ⟨hg.os.trans hb.os, hg.tape.trans hb.tape, hg.output.trans hb.output, Nat.le_trans hb.size hg.size, fun k hk => (hg.block k (Nat.lt_of_lt_of_le hk hb.size) (fun e1 => by have := ownFar ho e1.symm; omega)).trans (hb.block k hk)⟩
theorem owns_new2 (w : World) (e : TypeId) (size cap : Nat) (cs : Array Value) (h : cs.size = cap * size) (hc : cap ≤ maxLen) : (w.alloc (.cells cs e)).ownsRow w.heap.size e size (.slice (some ⟨w.heap.size, 0, none⟩) 0 cap) 0 [] :=
  ⟨by simp, .inr ⟨w.heap.size, cap, cs, rfl, Nat.le_refl _, World.alloc_heap_new w _, Nat.zero_le _, hc, h, by simp⟩⟩
/-- a row of one's own, and nothing else -/
structure CcR (w W : World) (e : TypeId) (size : Nat) (v : Value) (n : Nat) (cs : List Value) : Prop where
  o : W.ownsRow w.heap.size e size v n cs
  b : Below w.heap.size w W

theorem infoWk : (Tryd.prog.info? 61).map (fun i => (i.zero, i.size, i.bytes)) = some (some (.agg #[.int .i64 0, .int .i64 0, .int .i64 0]), 3, 24) := by kernel_rfl

/-- Grow of nothing -/
theorem growWk_any (n : Nat) (hn : n ≤ 100000) (w : World) :
    Calls Tryd.prog 102 #[.slice none 0 0, .int .i64 (n : Int)] w fun e w' => ∃ v, e = .returned v ∧ w'.ownsRow w.heap.size 61 3 v 0 [] ∧ Below w.heap.size w w' := by
  obtain ⟨i0, hi, hz0, hz1, hz2⟩ := info_parts infoWk
  by_cases h0 : n = 0
  · subst h0
    refine (Any8.slices_Grow_room Tryd.grow102 none 0 0 0 w (Nat.le_refl _) (by omega) (by omega) (Nat.le_refl _)).mono ?_
    rintro e w' ⟨rfl, rfl⟩
    exact ⟨_, rfl, World.ownsRow_nil _ _ _ _, Below.refl _ _⟩
  · refine (Any8.slices_Grow_grow Tryd.grow102 i0 _ hi hz0 (by rw [hz1]; decide) none 0 0 n [] w (Nat.le_refl _) (by omega) (by rw [hz2]; omega) (by omega) (by simp) (fun _ => rfl) (fun a h => by cases h)).mono ?_
    rintro e w' ⟨rfl, rfl⟩
    refine ⟨_, rfl, owns_new2 w.drew _ _ _ _ ?_ (grownCap_le_maxLen _ _ _ _ (by unfold maxLen; omega)), ((Below.refl _ _).drew).alloc (Nat.le_refl _) _⟩
    · have hge := grownCap_ge w (0 + n) 0 61
      have e3 : (.agg #[.int .i64 0, .int .i64 0, .int .i64 0] : Value).cells.size = 3 := rfl
      show (_ ++ _ ++ _ : Array Value).size = _
      rw [Array.size_append, Array.size_append, size_zeroCells, size_zeroCells, e3]
      show 0 + _ + (grownCap w (0 + n) 0 61 - (0 + n)) * 3 = grownCap w (0 + n) 0 61 * 3
      omega

/-- append of cells that lie in a row, to cells of one's own -/
theorem wpList_append_csWk {w : World} {ops : Array Oper} {rest : List Oper} {o : Oper} {a : Act} {Q : Exit → Act → World → Prop} (hgd : o.guard = none) (s x : Operand)
    (ho : o.op = .call { callee := .builtin .append, args := #[s, x], argTypes := #[32, 32] })
    (base : Nat) (v : Value) (n : Nat) (pre : List Value) (hs : a.eval s = v) (hown : w.ownsRow base 61 3 v n pre)
    (b : Option Addr) (m cap : Nat) (cs : List Value) (hm : cs.length = m * 3) (hone : ∀ u ∈ cs, u.oneCell' = true) (hx : a.eval x = .slice b m cap) (hL : CsAt w b cs) (hb : b = none → cap = 0)
    (h9 : n + m ≤ 100000) (hbase : base ≤ w.heap.size)
    (h : ∀ v' w', w'.ownsRow base 61 3 v' (n + m) (pre ++ cs) → w.grownBy w' v.ownBlock → wpList Tryd.prog ops Q rest (a.put o.dst v') w') : wpList Tryd.prog ops Q (o :: rest) a w := by
  obtain ⟨i0, hi, hz0, hz1, hz2⟩ := info_parts infoWk
  cases b with
  | none =>
    have h0 := hb rfl
    subst h0
    obtain rfl := hL.none
    obtain rfl : m = 0 := by simp at hm; omega
    refine wpList_append_own_none hgd s x 32 ho base 61 i0 3 Tryd.underlying32 hi v n _ hs hown hx ?_
    refine h v w ?_ (grownBy_refl2 _ _)
    rw [List.append_nil]
    exact hown
  | some ad =>
    refine wpList_append_own _ hgd s x 32 ho base 61 i0 _ 3 24 Tryd.underlying32 hi hz0 hz1 hz2 rfl (by decide) v n _ hs hown ad m cap cs hx hm (fun j u hu => by
      obtain ⟨y, hy, hc⟩ := hL j u hu
      obtain rfl := Option.some.inj hy
      exact hc) hone ?_ ?_ hbase ?_
    · unfold maxLen; omega
    · omega
    · intro v' w' h1 h2 _
      exact h v' w' h1 h2

set_option maxRecDepth 100000 in
set_option maxHeartbeats 4000000 in
theorem concatWk_any (ab : Nat) (a b : Option Addr) (m q cap cap2 : Nat) (hm9 : m ≤ 1000) (hq9 : q ≤ 1000) (L L2 : List Value) (hm : Hid (L.length = m * 3)) (hq : Hid (L2.length = q * 3)) (hu : Hid (∀ u ∈ L, u.oneCell' = true)) (hu2 : Hid (∀ u ∈ L2, u.oneCell' = true)) (ha : Hid (a = none → cap = 0)) (hb : Hid (b = none → cap2 = 0)) (w : World) (hL : Hid (CsAt w a L)) (hL2 : Hid (CsAt w b L2)) (c0 : w.cell? ⟨ab, 0, none⟩ = some (.slice a m cap)) (c1 : w.cell? ⟨ab, 1, none⟩ = some (.slice b q cap2)) :
    Calls Tryd.prog 83 #[.slice (some ⟨ab, 0, none⟩) 2 2] w fun e w' => ∃ v, e = .returned v ∧ Hid (w'.ownsRow w.heap.size 61 3 v (m + q) (L ++ L2)) ∧ Below w.heap.size w w' := by
  have HG := Lib.hid (growWk_any (m + q) (by omega) w)
  go_enter Tryd.func83, Tryd.ntmps83
  go_wp2
  go_loopw [11, 3] (fun i s wr => ∃ k : Nat, k ≤ 2 ∧ i = .int .i64 k ∧ s = .int .i64 ((if k = 0 then 0 else if k = 1 then m else m + q : Nat) : Int) ∧ w = wr) (fun i _ _ => 2 - (RowKit.intOf i).toNat)
  case atStart => exact ⟨0, by omega, rfl, rfl, rfl⟩
  case round =>
    obtain ⟨k, hk, rfl, rfl, rfl⟩ := hrel
    rcases (by omega : k = 0 ∨ k = 1 ∨ k = 2) with rfl | rfl | rfl
    · go_wp2
      go_roundw
      case rel => exact ⟨1, by omega, by go_num, by first | rfl | go_num, by first | rfl | trivial⟩
      case measure => decide
    · go_wp2
      go_roundw
      case rel => exact ⟨2, by omega, by go_num, by first | rfl | go_num, by first | rfl | trivial⟩
      case measure => decide
    · go_wp2_with fail
      refine HG.out.mono ?_
      rintro e w1 ⟨v, rfl, hown, hb1⟩
      have hS := Lib.hid (CcR.mk hown hb1)
      have d0 := kept1 c0 hb1
      have d1 := kept1 c1 hb1
      have hL' := Lib.hid (hL.out.below hb1)
      have hL2' := Lib.hid (hL2.out.below hb1)
      clear HG hown hb1
      go_wp2
      go_loopw [27, 6] (fun i v W => ∃ k : Nat, k ≤ 2 ∧ i = .int .i64 k ∧ Hid (CcR w W 61 3 v (if k = 0 then 0 else if k = 1 then m else m + q) (if k = 0 then [] else if k = 1 then L else L ++ L2))) (fun i _ _ => 2 - (RowKit.intOf i).toNat)
      case atStart => exact ⟨0, by omega, rfl, hS⟩
      case round =>
        clear hS d0 d1 hL' hL2'
        obtain ⟨k, hk, rfl, hS⟩ := hrel
        have e0 := kept1 c0 hS.out.b
        have e1 := kept1 c1 hS.out.b
        have hLw := Lib.hid (hL.out.below hS.out.b)
        have hL2w := Lib.hid (hL2.out.below hS.out.b)
        rcases (by omega : k = 0 ∨ k = 1 ∨ k = 2) with rfl | rfl | rfl
        · simp only [if_true] at hS
          go_wp2_with (first
            | (refine wpList_append_csWk rfl (.tmp 31) (.tmp 32) rfl w.heap.size _ _ [] rfl hS.out.o a m cap L hm.out hu.out rfl hLw.out ha.out ?c1 ?c2 ?_) | fail)
          case c1 => omega
          case c2 => exact hS.out.b.size
          intro v' w2 h1 h2
          have hS2 := Lib.hid (CcR.mk (cs := L) (n := m) (by simpa using h1) (below_grown2 hS.out.b hS.out.o h2))
          clear h1 h2 hS
          go_wp2
          go_roundw
          case rel => exact ⟨1, by omega, by go_num, hS2⟩
          case measure => decide
        · simp only [Nat.one_ne_zero, if_false, if_true] at hS
          go_wp2_with (first
            | (refine wpList_append_csWk rfl (.tmp 31) (.tmp 32) rfl w.heap.size _ _ L rfl hS.out.o b q cap2 L2 hq.out hu2.out rfl hL2w.out hb.out ?c1 ?c2 ?_) | fail)
          case c1 => omega
          case c2 => exact hS.out.b.size
          intro v' w2 h1 h2
          have hS2 := Lib.hid (CcR.mk (cs := L ++ L2) (n := m + q) h1 (below_grown2 hS.out.b hS.out.o h2))
          clear h1 h2 hS
          go_wp2
          go_roundw
          case rel => exact ⟨2, by omega, by go_num, hS2⟩
          case measure => decide
        · have hS3 : CcR w wr _ _ _ (m + q) (L ++ L2) := hS.out
          have h9 := Lib.hid hS3.o
          have hb9 := hS3.b
          clear hS hS3 e0 e1
          go_wp2
          go_ret
          exact ⟨_, rfl, h9, hb9⟩
end Go.Proofs.YtidcedilfhmllaaDoor

/- slices.Concat of two lists of signs. -/
namespace Go.Proofs.YtidcedilfhmllaaDoor
open Go.RowKit Go.Lib Go.Shelf

set_option maxRecDepth 100000 in
set_option maxHeartbeats 4000000 in
theorem growSg_any (n : Nat) (hn : n ≤ 100000) (w : World) :
    Calls Tryd.prog 93 #[.slice none 0 0, .int .i64 (n : Int)] w fun e w' => ∃ v, e = .returned v ∧ w'.ownsRow w.heap.size 70 2 v 0 [] ∧ Below w.heap.size w w' := by
  obtain ⟨i0, hi, hz0, hz1, hz2⟩ := info_parts infoSg
  by_cases h0 : n = 0
  · subst h0
    go_enter Tryd.func93, Tryd.ntmps93
    go_wp2
    go_ret
    exact ⟨_, rfl, World.ownsRow_nil _ _ _ _, Below.refl _ _⟩
  · have hrz : ∀ ty, (Builtin.append_ #[46, 3] ty #[.slice none 0 0, .int .i64 (n : Int)]).run Tryd.prog w =
        .ok (.slice (some ⟨w.heap.size, 0, none⟩) n (grownCap w n 0 70)) (w.drew.alloc (.cells (#[] ++ Builtin.zeroCells (.agg #[.int .i64 0, .bool false] : Value).cells n ++ Builtin.zeroCells (.agg #[.int .i64 0, .bool false] : Value).cells (grownCap w n 0 70 - n)) 70)) := fun ty => by
      have h := Lib.run_append_grow_zeros w 46 3 ty 70 i0 _ .i64 .i64 Tryd.underlying46 Tryd.underlying3 hi hz0 none 0 0 [] (run_firstCells_none w.drew i0.size 0 0 0) n (by omega) (by rw [hz1]; decide) (by omega) (by omega) (by rw [hz2]; omega) (growslice_fits (by omega) (by rw [hz2]; omega))
      rw [Nat.zero_add] at h
      exact h
    have hge := grownCap_ge w n 0 70
    have hG63 := grownCap_le_maxLen w n 0 70 (by unfold maxLen; omega)
    have hG64 : grownCap w n 0 70 ≤ 9223372036854775807 := by unfold maxLen at hG63; omega
    have hown : (w.drew.alloc (.cells (#[] ++ Builtin.zeroCells (.agg #[.int .i64 0, .bool false] : Value).cells n ++ Builtin.zeroCells (.agg #[.int .i64 0, .bool false] : Value).cells (grownCap w n 0 70 - n)) 70)).ownsRow w.heap.size 70 2 (.slice (some ⟨w.heap.size, 0, none⟩) 0 (grownCap w n 0 70)) 0 [] := by
      refine owns_new2 w.drew _ _ _ _ ?_ hG63
      have e3 : (Value.agg #[.int .i64 0, .bool false]).cells.size = 2 := rfl
      rw [Array.size_append, Array.size_append, size_zeroCells, size_zeroCells, e3]
      show 0 + _ + (grownCap w n 0 70 - n) * 2 = grownCap w n 0 70 * 2
      omega
    have hbel : Below w.heap.size w (w.drew.alloc (.cells (#[] ++ Builtin.zeroCells (.agg #[.int .i64 0, .bool false] : Value).cells n ++ Builtin.zeroCells (.agg #[.int .i64 0, .bool false] : Value).cells (grownCap w n 0 70 - n)) 70)) := ((Below.refl _ _).drew).alloc (Nat.le_refl _) _
    generalize w.drew.alloc (.cells (#[] ++ Builtin.zeroCells (.agg #[.int .i64 0, .bool false] : Value).cells n ++ Builtin.zeroCells (.agg #[.int .i64 0, .bool false] : Value).cells (grownCap w n 0 70 - n)) 70) = W' at *
    generalize grownCap w n 0 70 = G at *
    have h4 : (0 : Int) < (n : Int) := by omega
    have hown2 := Lib.hid hown
    clear hown
    go_enter Tryd.func93, Tryd.ntmps93
    go_wp2_with (at_builtin; refine Lib.wpList_append_run _ rfl _ _ _ _ rfl _ _ rfl rfl _ _ (hrz _) ?_)
    go_ret
    exact ⟨_, rfl, hown2.out, hbel⟩

/-- append of cells that lie in a row, to cells of one's own -/
theorem wpList_append_csSg {w : World} {ops : Array Oper} {rest : List Oper} {o : Oper} {a : Act} {Q : Exit → Act → World → Prop} (hgd : o.guard = none) (s x : Operand)
    (ho : o.op = .call { callee := .builtin .append, args := #[s, x], argTypes := #[46, 46] })
    (base : Nat) (v : Value) (n : Nat) (pre : List Value) (hs : a.eval s = v) (hown : w.ownsRow base 70 2 v n pre)
    (b : Option Addr) (m cap : Nat) (cs : List Value) (hm : cs.length = m * 2) (hone : ∀ u ∈ cs, u.oneCell' = true) (hx : a.eval x = .slice b m cap) (hL : CsAt w b cs) (hb : b = none → cap = 0)
    (h9 : n + m ≤ 100000) (hbase : base ≤ w.heap.size)
    (h : ∀ v' w', w'.ownsRow base 70 2 v' (n + m) (pre ++ cs) → w.grownBy w' v.ownBlock → wpList Tryd.prog ops Q rest (a.put o.dst v') w') : wpList Tryd.prog ops Q (o :: rest) a w := by
  obtain ⟨i0, hi, hz0, hz1, hz2⟩ := info_parts infoSg
  cases b with
  | none =>
    have h0 := hb rfl
    subst h0
    obtain rfl := hL.none
    obtain rfl : m = 0 := by simp at hm; omega
    refine wpList_append_own_none hgd s x 46 ho base 70 i0 2 Tryd.underlying46 hi v n _ hs hown hx ?_
    refine h v w ?_ (grownBy_refl2 _ _)
    rw [List.append_nil]
    exact hown
  | some ad =>
    refine wpList_append_own _ hgd s x 46 ho base 70 i0 _ 2 16 Tryd.underlying46 hi hz0 hz1 hz2 rfl (by decide) v n _ hs hown ad m cap cs hx hm (fun j u hu => by
      obtain ⟨y, hy, hc⟩ := hL j u hu
      obtain rfl := Option.some.inj hy
      exact hc) hone ?_ ?_ hbase ?_
    · unfold maxLen; omega
    · omega
    · intro v' w' h1 h2 _
      exact h v' w' h1 h2

set_option maxRecDepth 100000 in
set_option maxHeartbeats 4000000 in
theorem concatSg_any (ab : Nat) (a b : Option Addr) (m q cap cap2 : Nat) (hm9 : m ≤ 1000) (hq9 : q ≤ 1000) (L L2 : List Value) (hm : Hid (L.length = m * 2)) (hq : Hid (L2.length = q * 2)) (hu : Hid (∀ u ∈ L, u.oneCell' = true)) (hu2 : Hid (∀ u ∈ L2, u.oneCell' = true)) (ha : Hid (a = none → cap = 0)) (hb : Hid (b = none → cap2 = 0)) (w : World) (hL : Hid (CsAt w a L)) (hL2 : Hid (CsAt w b L2)) (c0 : w.cell? ⟨ab, 0, none⟩ = some (.slice a m cap)) (c1 : w.cell? ⟨ab, 1, none⟩ = some (.slice b q cap2)) :
    Calls Tryd.prog 72 #[.slice (some ⟨ab, 0, none⟩) 2 2] w fun e w' => ∃ v, e = .returned v ∧ Hid (w'.ownsRow w.heap.size 70 2 v (m + q) (L ++ L2)) ∧ Below w.heap.size w w' := by
  have HG := Lib.hid (growSg_any (m + q) (by omega) w)
  go_enter Tryd.func72, Tryd.ntmps72
  go_wp2
  go_loopw [11, 3] (fun i s wr => ∃ k : Nat, k ≤ 2 ∧ i = .int .i64 k ∧ s = .int .i64 ((if k = 0 then 0 else if k = 1 then m else m + q : Nat) : Int) ∧ w = wr) (fun i _ _ => 2 - (RowKit.intOf i).toNat)
  case atStart => exact ⟨0, by omega, rfl, rfl, rfl⟩
  case round =>
    obtain ⟨k, hk, rfl, rfl, rfl⟩ := hrel
    rcases (by omega : k = 0 ∨ k = 1 ∨ k = 2) with rfl | rfl | rfl
    · go_wp2
      go_roundw
      case rel => exact ⟨1, by omega, by go_num, by first | rfl | go_num, by first | rfl | trivial⟩
      case measure => decide
    · go_wp2
      go_roundw
      case rel => exact ⟨2, by omega, by go_num, by first | rfl | go_num, by first | rfl | trivial⟩
      case measure => decide
    · go_wp2_with fail
      refine HG.out.mono ?_
      rintro e w1 ⟨v, rfl, hown, hb1⟩
      have hS := Lib.hid (CcR.mk hown hb1)
      have d0 := kept1 c0 hb1
      have d1 := kept1 c1 hb1
      have hL' := Lib.hid (hL.out.below hb1)
      have hL2' := Lib.hid (hL2.out.below hb1)
      clear HG hown hb1
      go_wp2
      go_loopw [27, 6] (fun i v W => ∃ k : Nat, k ≤ 2 ∧ i = .int .i64 k ∧ Hid (CcR w W 70 2 v (if k = 0 then 0 else if k = 1 then m else m + q) (if k = 0 then [] else if k = 1 then L else L ++ L2))) (fun i _ _ => 2 - (RowKit.intOf i).toNat)
      case atStart => exact ⟨0, by omega, rfl, hS⟩
      case round =>
        clear hS d0 d1 hL' hL2'
        obtain ⟨k, hk, rfl, hS⟩ := hrel
        have e0 := kept1 c0 hS.out.b
        have e1 := kept1 c1 hS.out.b
        have hLw := Lib.hid (hL.out.below hS.out.b)
        have hL2w := Lib.hid (hL2.out.below hS.out.b)
        rcases (by omega : k = 0 ∨ k = 1 ∨ k = 2) with rfl | rfl | rfl
        · simp only [if_true] at hS
          go_wp2_with (first
            | (refine wpList_append_csSg rfl (.tmp 31) (.tmp 32) rfl w.heap.size _ _ [] rfl hS.out.o a m cap L hm.out hu.out rfl hLw.out ha.out ?c1 ?c2 ?_) | fail)
          case c1 => omega
          case c2 => exact hS.out.b.size
          intro v' w2 h1 h2
          have hS2 := Lib.hid (CcR.mk (cs := L) (n := m) (by simpa using h1) (below_grown2 hS.out.b hS.out.o h2))
          clear h1 h2 hS
          go_wp2
          go_roundw
          case rel => exact ⟨1, by omega, by go_num, hS2⟩
          case measure => decide
        · simp only [Nat.one_ne_zero, if_false, if_true] at hS
          go_wp2_with (first
            | (refine wpList_append_csSg rfl (.tmp 31) (.tmp 32) rfl w.heap.size _ _ L rfl hS.out.o b q cap2 L2 hq.out hu2.out rfl hL2w.out hb.out ?c1 ?c2 ?_) | fail)
          case c1 => omega
          case c2 => exact hS.out.b.size
          intro v' w2 h1 h2
          have hS2 := Lib.hid (CcR.mk (cs := L ++ L2) (n := m + q) h1 (below_grown2 hS.out.b hS.out.o h2))
          clear h1 h2 hS
          go_wp2
          go_roundw
          case rel => exact ⟨2, by omega, by go_num, hS2⟩
          case measure => decide
        · have hS3 : CcR w wr _ _ _ (m + q) (L ++ L2) := hS.out
          have h9 := Lib.hid hS3.o
          have hb9 := hS3.b
          clear hS hS3 e0 e1
          go_wp2
          go_ret
          exact ⟨_, rfl, h9, hb9⟩
end Go.Proofs.YtidcedilfhmllaaDoor
