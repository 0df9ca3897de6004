/- What the claims of layer 3 share, part 16: several texts one behind the other. -/
import Derived.Test.YtidcedilfhmllaaDoorZ15
import Derived.Test.YtidcedilfhmllaaDoorZ14
import Derived.Test.YtidcedilfhmllaaDoorZ13
set_option linter.unusedSimpArgs false
set_option linter.unusedVariables false
/- Contracts of package plate: signs (written by tools/genJr.py). -/
namespace Pl
/-- the first k of the sixteen signs -/
def sg16 (k : Nat) : List (Nat × Bool) := (List.range k).map fun j => (j / 2, decide (j % 2 = 1))
theorem sg16_succ (k : Nat) : sg16 (k + 1) = sg16 k ++ [(k / 2, decide (k % 2 = 1))] := by
  unfold sg16
  rw [List.range_succ, List.map_append]
  rfl
/-- signs: those of the first k at which there is an arrival -/
def sgs (f : St → Option (St × Int)) (p : Int) (k : Nat) : List (Nat × Bool) := (sg16 k).filter fun g => (f ⟨p, g.1, g.2⟩).isSome
theorem sgs_succ (f : St → Option (St × Int)) (p : Int) (k : Nat) : sgs f p (k + 1) = if (f ⟨p, k / 2, decide (k % 2 = 1)⟩).isSome then sgs f p k ++ [(k / 2, decide (k % 2 = 1))] else sgs f p k := by
  unfold sgs
  rw [sg16_succ, List.filter_append]
  by_cases h : (f ⟨p, k / 2, decide (k % 2 = 1)⟩).isSome = true
  · rw [if_pos h]
    congr 1
    simp [List.filter, h]
  · rw [if_neg h]
    simp [List.filter, h]
theorem sgs_le (f : St → Option (St × Int)) (p : Int) (k : Nat) : (sgs f p k).length ≤ k := by
  unfold sgs
  refine Nat.le_trans (List.length_filter_le _ _) ?_
  unfold sg16
  simp
theorem sgs_even (f : St → Option (St × Int)) (p : Int) (t : Nat) : sgs f p (2 * t + 1) = if (f ⟨p, t, false⟩).isSome then sgs f p (2 * t) ++ [(t, false)] else sgs f p (2 * t) := by
  rw [sgs_succ, show 2 * t / 2 = t by omega, show decide (2 * t % 2 = 1) = false from decide_eq_false (by omega)]
theorem sgs_odd (f : St → Option (St × Int)) (p : Int) (t : Nat) : sgs f p (2 * t + 2) = if (f ⟨p, t, true⟩).isSome then sgs f p (2 * t + 1) ++ [(t, true)] else sgs f p (2 * t + 1) := by
  rw [show 2 * t + 2 = (2 * t + 1) + 1 from rfl, sgs_succ, show (2 * t + 1) / 2 = t by omega, show decide ((2 * t + 1) % 2 = 1) = true from decide_eq_true (by omega)]
end Pl
namespace Go.Proofs.YtidcedilfhmllaaDoor
open Go.RowKit

theorem infoSg : (Tryd.prog.info? 70).map (fun i => (i.zero, i.size, i.bytes)) = some (some (.agg #[.int .i64 0, .bool false]), 2, 16) := by kernel_rfl
theorem ownBelow {W W' : World} {base n size : Nat} {e : TypeId} {v : Value} {xs : List Value} (h : W.ownsRow base e size v n xs) (hb : Below W.heap.size W W') : W'.ownsRow base e size v n xs := h.kept (grown_of_below hb) (by cases hv : v.ownBlock <;> simp)
theorem ownLess {W : World} {base n size : Nat} {e : TypeId} {v : Value} {xs : List Value} (h : W.ownsRow (base + 1) e size v n xs) : W.ownsRow base e size v n xs := by
  refine ⟨h.1, ?_⟩
  rcases h.2 with hn | ⟨g, cap, cur, hv, hb, r⟩
  · exact .inl hn
  · exact .inr ⟨g, cap, cur, hv, Nat.le_of_succ_le hb, r⟩
theorem idx_b0 (W : World) : (Instr.index 141 (.agg #[.bool false, .bool true]) (.int .i64 0)).run Tryd.prog W = .ok (.bool false) W := by kernel_rfl
theorem idx_b1 (W : World) : (Instr.index 141 (.agg #[.bool false, .bool true]) (.int .i64 1)).run Tryd.prog W = .ok (.bool true) W := by kernel_rfl
def sgCells (G : List (Nat × Bool)) : List Value := G.flatMap fun g => [.int .i64 (g.1 : Int), .bool g.2]
theorem sgCells_append (L L2 : List (Nat × Bool)) : sgCells (L ++ L2) = sgCells L ++ sgCells L2 := by unfold sgCells; rw [List.flatMap_append]
theorem sgCells_one (g : Nat × Bool) : sgCells [g] = [.int .i64 (g.1 : Int), .bool g.2] := rfl

set_option maxRecDepth 100000 in
set_option maxHeartbeats 8000000 in
theorem pSignsW_any (x : Addr) (n cap mb kk : Nat) (hn : 0 < n) (f : Pl.St → Option (Pl.St × Int)) (p : Int) (hp : 0 ≤ p ∧ p < 6) (w : World) (hx : w.cell? x = some (.int .i64 p)) (hA : AM w mb kk f) :
    Calls Tryd.prog 51 #[waV x n cap mb] w fun e w' => ∃ v, e = .returned v ∧ Hid (w'.ownsRow w.heap.size 70 2 v (Pl.sgs f p 16).length (sgCells (Pl.sgs f p 16))) ∧ Below w.heap.size w w' := by
  obtain ⟨i0, hi, hz0, hz1, hz2⟩ := info_parts infoSg
  have HH := fun (t : Nat) (m : Bool) (ht : t < 8) (W : World) (hb : Below w.heap.size w W) => pHas_any x n cap mb kk hn f p t m ⟨hp, ht⟩ W (kept1 hx hb) (hA.below hb)
  unfold waV at *
  replace HH := Lib.hid HH
  clear hx hA
  go_enter Tryd.func51, Tryd.ntmps51
  go_wp2
  have b0 : (w.alloc (Obj.cells #[.slice (some x) n cap, .map (some mb)] 92)).cell? ⟨w.heap.size, 0, none⟩ = some (.slice (some x) n cap) := by simp [go_sem]
  have b1 : (w.alloc (Obj.cells #[.slice (some x) n cap, .map (some mb)] 92)).cell? ⟨w.heap.size, 1, none⟩ = some (.map (some mb)) := by simp [go_sem]
  have hbw : Below w.heap.size w (w.alloc (Obj.cells #[.slice (some x) n cap, .map (some mb)] 92)) := below_alloc (Below.refl _ _) _
  have hlt0 : w.heap.size < (w.alloc (Obj.cells #[.slice (some x) n cap, .map (some mb)] 92)).heap.size := by simp
  generalize w.alloc (Obj.cells #[.slice (some x) n cap, .map (some mb)] 92) = X at *
  go_loopw [3, 8] (fun v i wr => ∃ t : Nat, t ≤ 8 ∧ i = .int .i64 t ∧ wr.cell? ⟨w.heap.size, 0, none⟩ = some (.slice (some x) n cap) ∧ wr.cell? ⟨w.heap.size, 1, none⟩ = some (.map (some mb)) ∧ Hid (wr.ownsRow (w.heap.size + 1) 70 2 v (Pl.sgs f p (2 * t)).length (sgCells (Pl.sgs f p (2 * t)))) ∧ Below w.heap.size w wr) (fun _ i _ => 8 - (RowKit.intOf i).toNat)
  case atStart => exact ⟨0, Nat.zero_le _, rfl, b0, b1, Lib.hid (World.ownsRow_nil _ _ _ _), hbw⟩
  case round =>
    clear b0 b1 hbw hlt0
    clear X
    obtain ⟨t, ht, rfl, b0, b1, ho, hb⟩ := hrel
    by_cases hlt : t < 8
    · have i1 : (t : Int) < 8 := by omega
      go_wp2
      generalize wr = X0 at *
      clear wr
      go_loopw [3, 12] (fun v i wr => ∃ j : Nat, j ≤ 2 ∧ i = .int .i64 j ∧ wr.cell? ⟨w.heap.size, 0, none⟩ = some (.slice (some x) n cap) ∧ wr.cell? ⟨w.heap.size, 1, none⟩ = some (.map (some mb)) ∧ Hid (wr.ownsRow (w.heap.size + 1) 70 2 v (Pl.sgs f p (2 * t + j)).length (sgCells (Pl.sgs f p (2 * t + j)))) ∧ Below w.heap.size w wr) (fun _ i _ => 2 - (RowKit.intOf i).toNat)
      case atStart => exact ⟨0, Nat.zero_le _, rfl, b0, b1, ho, hb⟩
      case round =>
        clear b0 b1 hb ho
        clear X0
        obtain ⟨j, hj, rfl, b0, b1, ho, hb⟩ := hrel
        have hsz := block_lt_of_cell b0
        simp only at hsz
        have hj3 : j = 0 ∨ j = 1 ∨ j = 2 := by omega
        rcases hj3 with rfl | rfl | rfl
        · have hst := Pl.sgs_even f p t
          have hle := Pl.sgs_le f p (2 * t + 0)
          have HC := HH.out t false hlt
          have hix := idx_b0
          cases hf : (f ⟨p, t, false⟩).isSome
          · rw [hf] at HC hst
            have ho2 : Hid (_root_.Go.World.ownsRow _ (w.heap.size + 1) 70 2 _ (Pl.sgs f p (2 * t + 1)).length (sgCells (Pl.sgs f p (2 * t + 1)))) := Lib.hid (by rw [hst]; exact ho.out)
            replace HC := Lib.hid HC
            clear hst ho hf HH
            go_wp2_with fail
            refine (HC.out _ (below_alloc hb _)).mono ?_
            rintro e w2 ⟨rfl, hb2⟩
            have hbA := (below_alloc (Below.refl _ _) (Obj.cells #[.int .i64 (t : Int), .bool false] 70)).trans (hb2.mono (by simp))
            have ho3 := Lib.hid (ownBelow ho2.out hbA)
            have hbW := hb.trans (hbA.mono hb.size)
            have c0 := kept1 b0 hbA
            have c1 := kept1 b1 hbA
            clear b0 b1
            go_wp2
            go_roundw
            case rel => exact ⟨1, by omega, rfl, c0, c1, ho3, hbW⟩
            case measure => simp [RowKit.intOf]
          · rw [hf] at HC hst
            replace hst := Lib.hid hst
            replace HC := Lib.hid HC
            clear hf HH
            go_wp2_with fail
            refine (HC.out _ (below_alloc hb _)).mono ?_
            rintro e w2 ⟨rfl, hb2⟩
            have hbA := (below_alloc (Below.refl _ _) (Obj.cells #[.int .i64 (t : Int), .bool false] 70)).trans (hb2.mono (by simp))
            have hbW := hb.trans (hbA.mono hb.size)
            have c0 := kept1 b0 hbA
            have c1 := kept1 b1 hbA
            have d0 : w2.cell? ⟨wr.heap.size, 0, none⟩ = some (.int .i64 (t : Int)) := kept1 (by simp [go_sem]) hb2
            have d1 : w2.cell? ⟨wr.heap.size, 1, none⟩ = some (.bool false) := kept1 (by simp [go_sem]) hb2
            have hown := ownBelow ho.out hbA
            have hsz2 := block_lt_of_cell c0
            simp only at hsz2
            clear b0 b1 ho hb2
            go_wp2_with (first
              | (at_builtin; refine wpList_append_own _ rfl (.tmp 21) (.tmp 23) 46 rfl (w.heap.size + 1) 70 i0 (.agg #[.int .i64 0, .bool false]) 2 16 Tryd.underlying46 hi hz0 hz1 hz2 rfl (by decide) _ _ _ rfl (hown.alloc _) ⟨w2.heap.size, 0, none⟩ 1 1 [.int .i64 (t : Int), .bool false] rfl rfl ?c1 ?c2 ?c3 ?c4 ?c5 ?_)
              | fail)
            case c1 =>
              intro j u hj
              match j, hj with
              | 0, hj => simp at hj; subst hj; simp [Addr.add]
              | 1, hj => simp at hj; subst hj; simp [Addr.add]
            case c2 => intro u hu; simp at hu; rcases hu with rfl | rfl <;> rfl
            case c3 => unfold maxLen; omega
            case c4 => omega
            case c5 => simp; omega
            intro v' w4 hown' hgrow hnn
            have hbG : Below (w.heap.size + 1) w2 w4 := ((Below.refl _ w2).alloc (by omega) (Obj.cells #[.int .i64 (t : Int), .bool false] 70)).grown hgrow (by simp; omega) (fun g hg => ownFar hown hg)
            have hn : Hid (w4.ownsRow (w.heap.size + 1) 70 2 v' (Pl.sgs f p (2 * t + 1)).length (sgCells (Pl.sgs f p (2 * t + 1)))) := Lib.hid (by rw [hst.out, if_pos (by trivial), List.length_append, sgCells_append]; exact hown')
            have e0 := (hbG.cell (p := ⟨w.heap.size, 0, none⟩) (Nat.lt_succ_self _)).trans c0
            have e1 := (hbG.cell (p := ⟨w.heap.size, 1, none⟩) (Nat.lt_succ_self _)).trans c1
            have hbX := hbW.trans (hbG.mono (Nat.le_succ _))
            clear hown hown' hgrow hnn c0 c1 d0 d1
            go_wp2
            go_roundw
            case rel => exact ⟨1, by omega, rfl, e0, e1, hn, hbX⟩
            case measure => simp [RowKit.intOf]
        · have hst := Pl.sgs_odd f p t
          have hle := Pl.sgs_le f p (2 * t + 1)
          have HC := HH.out t true hlt
          have hix := idx_b1
          cases hf : (f ⟨p, t, true⟩).isSome
          · rw [hf] at HC hst
            have ho2 : Hid (_root_.Go.World.ownsRow _ (w.heap.size + 1) 70 2 _ (Pl.sgs f p (2 * t + 2)).length (sgCells (Pl.sgs f p (2 * t + 2)))) := Lib.hid (by rw [hst]; exact ho.out)
            replace HC := Lib.hid HC
            clear hst ho hf HH
            go_wp2_with fail
            refine (HC.out _ (below_alloc hb _)).mono ?_
            rintro e w2 ⟨rfl, hb2⟩
            have hbA := (below_alloc (Below.refl _ _) (Obj.cells #[.int .i64 (t : Int), .bool true] 70)).trans (hb2.mono (by simp))
            have ho3 := Lib.hid (ownBelow ho2.out hbA)
            have hbW := hb.trans (hbA.mono hb.size)
            have c0 := kept1 b0 hbA
            have c1 := kept1 b1 hbA
            clear b0 b1
            go_wp2
            go_roundw
            case rel => exact ⟨2, by omega, rfl, c0, c1, ho3, hbW⟩
            case measure => simp [RowKit.intOf]
          · rw [hf] at HC hst
            replace hst := Lib.hid hst
            replace HC := Lib.hid HC
            clear hf HH
            go_wp2_with fail
            refine (HC.out _ (below_alloc hb _)).mono ?_
            rintro e w2 ⟨rfl, hb2⟩
            have hbA := (below_alloc (Below.refl _ _) (Obj.cells #[.int .i64 (t : Int), .bool true] 70)).trans (hb2.mono (by simp))
            have hbW := hb.trans (hbA.mono hb.size)
            have c0 := kept1 b0 hbA
            have c1 := kept1 b1 hbA
            have d0 : w2.cell? ⟨wr.heap.size, 0, none⟩ = some (.int .i64 (t : Int)) := kept1 (by simp [go_sem]) hb2
            have d1 : w2.cell? ⟨wr.heap.size, 1, none⟩ = some (.bool true) := kept1 (by simp [go_sem]) hb2
            have hown := ownBelow ho.out hbA
            have hsz2 := block_lt_of_cell c0
            simp only at hsz2
            clear b0 b1 ho hb2
            go_wp2_with (first
              | (at_builtin; refine wpList_append_own _ rfl (.tmp 21) (.tmp 23) 46 rfl (w.heap.size + 1) 70 i0 (.agg #[.int .i64 0, .bool false]) 2 16 Tryd.underlying46 hi hz0 hz1 hz2 rfl (by decide) _ _ _ rfl (hown.alloc _) ⟨w2.heap.size, 0, none⟩ 1 1 [.int .i64 (t : Int), .bool true] rfl rfl ?c1 ?c2 ?c3 ?c4 ?c5 ?_)
              | fail)
            case c1 =>
              intro j u hj
              match j, hj with
              | 0, hj => simp at hj; subst hj; simp [Addr.add]
              | 1, hj => simp at hj; subst hj; simp [Addr.add]
            case c2 => intro u hu; simp at hu; rcases hu with rfl | rfl <;> rfl
            case c3 => unfold maxLen; omega
            case c4 => omega
            case c5 => simp; omega
            intro v' w4 hown' hgrow hnn
            have hbG : Below (w.heap.size + 1) w2 w4 := ((Below.refl _ w2).alloc (by omega) (Obj.cells #[.int .i64 (t : Int), .bool true] 70)).grown hgrow (by simp; omega) (fun g hg => ownFar hown hg)
            have hn : Hid (w4.ownsRow (w.heap.size + 1) 70 2 v' (Pl.sgs f p (2 * t + 2)).length (sgCells (Pl.sgs f p (2 * t + 2)))) := Lib.hid (by rw [hst.out, if_pos (by trivial), List.length_append, sgCells_append]; exact hown')
            have e0 := (hbG.cell (p := ⟨w.heap.size, 0, none⟩) (Nat.lt_succ_self _)).trans c0
            have e1 := (hbG.cell (p := ⟨w.heap.size, 1, none⟩) (Nat.lt_succ_self _)).trans c1
            have hbX := hbW.trans (hbG.mono (Nat.le_succ _))
            clear hown hown' hgrow hnn c0 c1 d0 d1
            go_wp2
            go_roundw
            case rel => exact ⟨2, by omega, rfl, e0, e1, hn, hbX⟩
            case measure => simp [RowKit.intOf]
        · have hn : Hid (_root_.Go.World.ownsRow _ (w.heap.size + 1) 70 2 _ (Pl.sgs f p (2 * (t + 1))).length (sgCells (Pl.sgs f p (2 * (t + 1))))) := ho
          go_wp2
          go_roundw
          case rel => exact ⟨t + 1, by omega, by go_num, b0, b1, hn, hb⟩
          case measure => first | (simp [RowKit.intOf]; done) | (simp [RowKit.intOf]; omega) | omega
    · obtain rfl : t = 8 := by omega
      have i1 : ¬ ((8 : Nat) : Int) < 8 := by omega
      go_wp2
      go_ret
      exact ⟨_, rfl, Lib.hid (ownLess ho.out), hb⟩
end Go.Proofs.YtidcedilfhmllaaDoor
