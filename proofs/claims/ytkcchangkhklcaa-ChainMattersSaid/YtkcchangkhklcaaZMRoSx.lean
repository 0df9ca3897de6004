/- Several texts one behind the other. -/
import Derived.Test.YtkcchangkhklcaaZWo
import Derived.Test.YtkcchangkhklcaaZMQfRy
import Derived.Test.YtkcchangkhklcaaZMYsQa
import Derived.Test.YtkcchangkhklcaaZ06
import Derived.Deep.RegionHeld3
set_option linter.unusedSimpArgs false
set_option linter.unusedVariables false
/- Contracts of the specification: Without. -/
namespace Go.Proofs.Ytkcchangkhklcaa
open Go.RowKit

set_option linter.unusedSimpArgs false in
set_option maxRecDepth 100000 in
set_option maxHeartbeats 4000000 in
theorem rwithout_any (n : Int) (a b : Option Addr) (m q cap cap2 : Nat) (L : List Ch.Lk) (l : List Int) (hm : Hid (L.length = m)) (hq : Hid (l.length = q)) (hm9 : m ≤ 1000) (hq9 : q ≤ 1000) (w : World) (hL : Hid (LksAt w a L)) (hl : Hid (IntsAt w b l)) :
    Calls Try.prog 67 #[sysV n a m cap, .slice b q cap2] w (RwPost w n (Ch.wo L l m)) := by
  unfold sysV
  go_enter Try.func67, Try.ntmps67
  go_upto_region 2 with fail
  have c0 : (((w.alloc (Obj.cells #[.int .i64 n, .slice a m cap] 24)).alloc (Obj.cells #[.int .i64 0, .slice none 0 0] 24)).alloc (Obj.cells #[.int .i64 n, .slice none 0 0] 24)).cell? ⟨w.heap.size, 0, none⟩ = some (.int .i64 n) := by simp [go_sem]
  have c1 : (((w.alloc (Obj.cells #[.int .i64 n, .slice a m cap] 24)).alloc (Obj.cells #[.int .i64 0, .slice none 0 0] 24)).alloc (Obj.cells #[.int .i64 n, .slice none 0 0] 24)).cell? ⟨w.heap.size, 1, none⟩ = some (.slice a m cap) := by simp [go_sem]
  have bX : Below w.heap.size w (((w.alloc (Obj.cells #[.int .i64 n, .slice a m cap] 24)).alloc (Obj.cells #[.int .i64 0, .slice none 0 0] 24)).alloc (Obj.cells #[.int .i64 n, .slice none 0 0] 24)) := below_alloc (below_alloc (below_alloc (Below.refl _ _) _) _) _
  have rX : (((w.alloc (Obj.cells #[.int .i64 n, .slice a m cap] 24)).alloc (Obj.cells #[.int .i64 0, .slice none 0 0] 24)).alloc (Obj.cells #[.int .i64 n, .slice none 0 0] 24)).rowIs (w.heap.size + 1) 24 2 (fun i => if i = 0 then .int .i64 0 else .slice none 0 0) := by
    have h := (sysRow (X := w.alloc (Obj.cells #[.int .i64 n, .slice a m cap] 24)) (n := 0) (p := none) (m := 0)).alloc (Obj.cells #[.int .i64 n, .slice none 0 0] 24)
    simpa using h
  have rO : (((w.alloc (Obj.cells #[.int .i64 n, .slice a m cap] 24)).alloc (Obj.cells #[.int .i64 0, .slice none 0 0] 24)).alloc (Obj.cells #[.int .i64 n, .slice none 0 0] 24)).rowIs (w.heap.size + 1 + 1) 24 2 (fun i => if i = 0 then .int .i64 n else .slice none 0 0) := by
    have h := sysRow (X := (w.alloc (Obj.cells #[.int .i64 n, .slice a m cap] 24)).alloc (Obj.cells #[.int .i64 0, .slice none 0 0] 24)) (n := n) (p := none) (m := 0)
    simpa using h
  have zX : (((w.alloc (Obj.cells #[.int .i64 n, .slice a m cap] 24)).alloc (Obj.cells #[.int .i64 0, .slice none 0 0] 24)).alloc (Obj.cells #[.int .i64 n, .slice none 0 0] 24)).heap.size = w.heap.size + 3 := by simp
  replace rX := Lib.hid rX
  replace zX := Lib.hid zX
  generalize ((w.alloc (Obj.cells #[.int .i64 n, .slice a m cap] 24)).alloc (Obj.cells #[.int .i64 0, .slice none 0 0] 24)).alloc (Obj.cells #[.int .i64 n, .slice none 0 0] 24) = Y at *
  have lX : w.heap.size + 2 < Y.heap.size := by have := zX.out; omega
  have hWO := Lib.hid (WO.mk (Y := Y) (W := Y) (ob := w.heap.size + 1 + 1) (n := n) (v := .slice none 0 0) (pre := []) rO (World.ownsRow_nil _ _ _ _) (But.refl _ _) (by omega))
  replace c0 := Lib.hid c0
  replace c1 := Lib.hid c1
  clear rO
  replace bX := Lib.hid bX
  go_wp2
  go_loopw [6] (fun i wr => ∃ (k : Nat) (v : Value), k ≤ m ∧ i = .int .i64 k ∧ Hid (WO Y wr (w.heap.size + 1 + 1) n v (Ch.wo L l k))) (fun i _ => m - (RowKit.intOf i).toNat)
  case atStart => exact ⟨0, _, Nat.zero_le _, rfl, hWO⟩
  case round =>
    clear hWO
    obtain ⟨k, v, hk, rfl, HO⟩ := hrel
    have k1 := (HO.out.b.cell (p := ⟨w.heap.size, 1, none⟩) (by show w.heap.size < _; omega) (by show ¬ w.heap.size = _; omega)).trans c1.out
    have hbA := Lib.hid (bX.out.trans (HO.out.b.below bX.out.size (fun k hk e => by omega)))
    by_cases hlt : k < m
    · have hi5 : (k : Int) < (m : Int) := by omega
      have hi6 : (0 : Int) ≤ (k : Int) := by omega
      obtain ⟨y, hy, hl3⟩ := hL.out k (by have := hm.out; omega)
      subst hy
      have ⟨g0, g1, g2⟩ := hl3.below hbA.out
      have hhit := Ch.wo_hit (L := L) (which := l) (j := k)
      have hmiss := Ch.wo_miss (L := L) (which := l) (j := k)
      obtain ⟨f, t, mo, hlk⟩ : ∃ f t mo, L.getD k Ch.noLk = ⟨f, t, mo⟩ := ⟨_, _, _, rfl⟩
      rw [hlk] at g0 g1 g2 hhit
      simp only at g0 g1 g2
      have HH := Lib.hid fun (W : World) (hw : IntsAt W b l) (r : Bool) (hr : decide ((k : Int) ∈ l) = r) => has_any b q cap2 l (k : Int) hq hq9 r (Lib.hid hr) W (Lib.hid hw)
      have by0 : (y.add (k * 3)).block < w.heap.size := block_lt_of_cell hl3.1
      have bsz := bX.out.size
      clear hl3 hlk
      cases hd : decide ((k : Int) ∈ l)
      · have HH2 := Lib.hid (HH.out wr (hl.out.below hbA.out) false hd)
        replace hhit := Lib.hid (hhit hd)
        have hlen := Ch.wo_len L l k
        clear HH hd hmiss
        go_wp2_with fail
        refine HH2.out.mono ?_
        rintro e w2 ⟨rfl, hw2⟩
        subst hw2
        go_upto_region 6 with fail
        have o1 : w2.cell? ⟨w.heap.size + 1 + 1, 1, none⟩ = some v := HO.out.r.cell (i := 1) (by omega)
        have S0 : w2.drew.cell? ⟨w.heap.size, 1, none⟩ = some (.slice (some y) m cap) ∧ w2.drew.cell? ⟨w.heap.size + 1 + 1, 1, none⟩ = some v ∧ w2.drew.cell? (y.add (k * 3)) = some (.int .i64 f) ∧ w2.drew.cell? ⟨(y.add (k * 3)).block, (y.add (k * 3)).off + 1, none⟩ = some (.int .i64 t) ∧ w2.drew.cell? ⟨(y.add (k * 3)).block, (y.add (k * 3)).off + 2, none⟩ = some (.int .i64 mo) := ⟨k1, o1, g0, g1, g2⟩
        clear HH2 k1 g0 g1 g2
        refine region_head_held 9 (fun w' => w'.cell? ⟨w.heap.size, 1, none⟩ = some (.slice (some y) m cap) ∧ w'.cell? ⟨w.heap.size + 1 + 1, 1, none⟩ = some v ∧ w'.cell? (y.add (k * 3)) = some (.int .i64 f) ∧ w'.cell? ⟨(y.add (k * 3)).block, (y.add (k * 3)).off + 1, none⟩ = some (.int .i64 t) ∧ w'.cell? ⟨(y.add (k * 3)).block, (y.add (k * 3)).off + 2, none⟩ = some (.int .i64 mo)) (by kernel_rfl) (by kernel_rfl) S0 (fun hHeld => ?_)
        simp only [List.take_succ_cons, List.take_zero, List.drop_succ_cons, List.drop_zero]
        refine wpAnyH_take (i := 0) (v := ?_) rfl (by kernel_rfl) (by kernel_rfl) (by kernel_rfl) (fun _ _ _ h => h) (Or.inl ⟨by rfl, ?_⟩) (by assumption) ?_
        rotate_left 1
        · (intro w hSw; (try dsimp only at hSw); go_simp; all_goals with_reducible rfl)
        try simp only [Act.put, List.setIfInBounds_toArray, List.set_cons_zero, List.set_cons_succ]
        refine wpAnyH_take (i := 1) (v := ?_) rfl (by kernel_rfl) (by kernel_rfl) (by kernel_rfl) (fun _ _ _ h => h) (Or.inl ⟨by rfl, ?_⟩) (by assumption) ?_
        rotate_left 1
        · (intro w hSw; (try dsimp only at hSw); go_simp; all_goals with_reducible rfl)
        try simp only [Act.put, List.setIfInBounds_toArray, List.set_cons_zero, List.set_cons_succ]
        refine wpAnyH_take (i := 2) (v := ?_) rfl (by kernel_rfl) (by kernel_rfl) (by kernel_rfl) (fun _ _ _ h => h) (Or.inl ⟨by rfl, ?_⟩) (by assumption) ?_
        rotate_left 1
        · (intro w hSw; (try dsimp only at hSw); go_simp; all_goals with_reducible rfl)
        try simp only [Act.put, List.setIfInBounds_toArray, List.set_cons_zero, List.set_cons_succ]
        refine wpAnyH_take (i := 3) (v := ?_) rfl (by kernel_rfl) (by kernel_rfl) (by kernel_rfl) (fun _ _ _ h => h) (Or.inl ⟨by rfl, ?_⟩) (by assumption) ?_
        rotate_left 1
        · (intro w hSw; (try dsimp only at hSw); go_simp; all_goals with_reducible rfl)
        try simp only [Act.put, List.setIfInBounds_toArray, List.set_cons_zero, List.set_cons_succ]
        refine wpAnyH_take (i := 4) (v := ?_) rfl (by kernel_rfl) (by kernel_rfl) (by kernel_rfl) (fun _ _ _ h => h) (Or.inl ⟨by rfl, ?_⟩) (by assumption) ?_
        rotate_left 1
        · (intro w hSw; (try dsimp only at hSw); go_simp; all_goals with_reducible rfl)
        try simp only [Act.put, List.setIfInBounds_toArray, List.set_cons_zero, List.set_cons_succ]
        refine wpAnyH_take (i := 5) (v := ?_) rfl (by kernel_rfl) (by kernel_rfl) (by kernel_rfl) (fun _ _ _ h => h) (Or.inl ⟨by rfl, ?_⟩) (by assumption) ?_
        rotate_left 1
        · (intro w hSw; (try dsimp only at hSw); go_simp; all_goals with_reducible rfl)
        try simp only [Act.put, List.setIfInBounds_toArray, List.set_cons_zero, List.set_cons_succ]
        refine wpAnyH_take (i := 6) (v := ?_) rfl (by kernel_rfl) (by kernel_rfl) (by kernel_rfl) (fun _ _ _ h => h) (Or.inl ⟨by rfl, ?_⟩) (by assumption) ?_
        rotate_left 1
        · (intro w hSw; (try dsimp only at hSw); go_simp; all_goals with_reducible rfl)
        try simp only [Act.put, List.setIfInBounds_toArray, List.set_cons_zero, List.set_cons_succ]
        refine wpAnyH_ready (rs := [7]) (by kernel_rfl) (by simp) ?_
        refine AllReadyH.cons rfl (fun K hK => ?_) ?_
        rotate_left 1
        · exact AllReadyH.nil
        go_simp
        obtain ⟨s1, s2, s3, s4, s5⟩ := hHeld
        have T0 : (w2.alloc (Obj.cells #[.int .i64 f, .int .i64 t, .int .i64 mo] 58)).drew.cell? ⟨w.heap.size, 1, none⟩ = some (.slice (some y) m cap) ∧ (w2.alloc (Obj.cells #[.int .i64 f, .int .i64 t, .int .i64 mo] 58)).drew.cell? ⟨w.heap.size + 1 + 1, 1, none⟩ = some v ∧ (w2.alloc (Obj.cells #[.int .i64 f, .int .i64 t, .int .i64 mo] 58)).drew.cell? (y.add (k * 3)) = some (.int .i64 f) ∧ (w2.alloc (Obj.cells #[.int .i64 f, .int .i64 t, .int .i64 mo] 58)).drew.cell? ⟨(y.add (k * 3)).block, (y.add (k * 3)).off + 1, none⟩ = some (.int .i64 t) ∧ (w2.alloc (Obj.cells #[.int .i64 f, .int .i64 t, .int .i64 mo] 58)).drew.cell? ⟨(y.add (k * 3)).block, (y.add (k * 3)).off + 2, none⟩ = some (.int .i64 mo) := ⟨cell_alloc s1 _, cell_alloc s2 _, cell_alloc s3 _, cell_alloc s4 _, cell_alloc s5 _⟩
        refine hK.out _ _ T0 (fun hHeld2 => ?_)
        clear hK K
        try simp only [Act.put, List.setIfInBounds_toArray, List.set_cons_zero, List.set_cons_succ]
        refine wpAnyH_ready (rs := [8]) (by kernel_rfl) (by simp) ?_
        refine AllReadyH.cons rfl (fun K hK => ?_) ?_
        rotate_left 1
        · exact AllReadyH.nil
        have hbW : Below w2.heap.size w2 (w2.alloc (Obj.cells #[.int .i64 f, .int .i64 t, .int .i64 mo] 58)).drew := ((Below.refl w2.heap.size w2).alloc (Nat.le_refl _) _).drew
        have hY2 := HO.out.b.size
        refine step_append_lks (by rfl) _ _ (by rfl) Y.heap.size v (Ch.wo L l k).length (Ch.wo L l k) (by rfl) ((HO.out.o.alloc _).drew) (some ⟨w2.heap.size, 0, none⟩) 1 1 [⟨f, t, mo⟩] rfl (by rfl) ((lks_one w2 f t mo).below (Below.refl _ _).drew) (fun h => by cases h) (by omega) (Nat.le_trans hY2 hbW.size) ?_
        intro p1 cp1 wp1 hown1 hgrow1
        have hfar : ∀ g, v.ownBlock = some g → Y.heap.size ≤ g := fun g hg => owns_far HO.out.o hg
        obtain ⟨u1, u2, u3, u4, u5⟩ := hHeld2
        refine hK.out _ _ ⟨cell_far hgrow1 hfar (by show w.heap.size < _; omega) u1, cell_far hgrow1 hfar (by show w.heap.size + 1 + 1 < _; omega) u2, cell_far hgrow1 hfar (by omega) u3, cell_far hgrow1 hfar (by show (y.add (k * 3)).block < _; omega) u4, cell_far hgrow1 hfar (by show (y.add (k * 3)).block < _; omega) u5⟩ (fun hHeld3 => ?_)
        clear hK K
        try simp only [Act.put, List.setIfInBounds_toArray, List.set_cons_zero, List.set_cons_succ]
        refine wpAnyH_done (by kernel_rfl) ?_ _
        show wpList _ _ _ _ _ _
        obtain ⟨HP, r2⟩ := HO.out.push hbW hgrow1 hown1
        have t1 := r2.cell (i := 1) (by omega)
        have tz1 := r2.frozen 1
        simp only [Nat.one_ne_zero, if_false] at t1
        replace HP := Lib.hid HP
        clear hown1 hgrow1 hfar hHeld3 u1 u2 u3 u4 u5 s1 s2 s3 s4 s5 T0 S0 HO r2 hbW hbA
        go_wp2
        go_roundw
        case rel => exact ⟨k + 1, _, by omega, by go_num, Lib.hid (by rw [hhit.out]; exact HP.out)⟩
        case measure => show m - ((k : Int) + 1).toNat < m - (k : Int).toNat; omega
      · have HH2 := Lib.hid (HH.out wr (hl.out.below hbA.out) true hd)
        replace hmiss := Lib.hid (hmiss hd)
        clear HH hd hhit g0 g1 g2
        go_wp2_with fail
        refine HH2.out.mono ?_
        rintro e w2 ⟨rfl, hw2⟩
        subst hw2
        go_wp2
        go_roundw
        case rel => exact ⟨k + 1, v, by omega, by go_num, Lib.hid (by rw [hmiss.out]; exact HO.out)⟩
        case measure => show m - ((k : Int) + 1).toNat < m - (k : Int).toNat; omega
    · obtain rfl : k = m := by omega
      have hi5 : ¬ (k : Int) < (k : Int) := by omega
      obtain ⟨p9, cp9, hv9, _⟩ := owns_slice HO.out.o
      subst hv9
      have o0 : wr.cell? ⟨w.heap.size + 1 + 1, 0, none⟩ = some (.int .i64 n) := HO.out.r.cell (i := 0) (by omega)
      have o1 : wr.cell? ⟨w.heap.size + 1 + 1, 1, none⟩ = some (.slice p9 (Ch.wo L l k).length cp9) := HO.out.r.cell (i := 1) (by omega)
      have rr2 := Lib.hid (rX.out.of_block (HO.out.b.block _ rX.out.lt (by show ¬ w.heap.size + 1 = w.heap.size + 1 + 1; omega)))
      have t0 := rr2.out.cell (i := 0) (by omega)
      have t1 := rr2.out.cell (i := 1) (by omega)
      have tz0 := rr2.out.frozen 0
      have tz1 := rr2.out.frozen 1
      simp only [if_true, Nat.one_ne_zero, if_false] at t0 t1
      have q0 : ((wr.setCell ⟨w.heap.size + 1, 0, none⟩ (.int .i64 n)).setCell ⟨w.heap.size + 1, 1, none⟩ (.slice p9 (Ch.wo L l k).length cp9)).cell? ⟨w.heap.size + 1, 0, none⟩ = some (.int .i64 n) := ((rr2.out.set 0 _).set 1 _).cell (i := 0) (by omega)
      have q1 : ((wr.setCell ⟨w.heap.size + 1, 0, none⟩ (.int .i64 n)).setCell ⟨w.heap.size + 1, 1, none⟩ (.slice p9 (Ch.wo L l k).length cp9)).cell? ⟨w.heap.size + 1, 1, none⟩ = some (.slice p9 (Ch.wo L l k).length cp9) := ((rr2.out.set 0 _).set 1 _).cell (i := 1) (by omega)
      have hB4 : Below w.heap.size w ((wr.setCell ⟨w.heap.size + 1, 0, none⟩ (.int .i64 n)).setCell ⟨w.heap.size + 1, 1, none⟩ (.slice p9 (Ch.wo L l k).length cp9)) := (hbA.out.setCell (p := ⟨w.heap.size + 1, 0, none⟩) (by simp) (.int .i64 n)).setCell (p := ⟨w.heap.size + 1, 1, none⟩) (by simp) _
      have hown := Lib.hid (owns_base (base' := w.heap.size) (owns_but HO.out.o (((But.refl (fun g => g = w.heap.size + 1) wr).setCell (p := ⟨w.heap.size + 1, 0, none⟩) (.inr rfl) (.int .i64 n)).setCell (p := ⟨w.heap.size + 1, 1, none⟩) (.inr rfl) (.slice p9 (Ch.wo L l k).length cp9)) (fun g hg e => by have := owns_far HO.out.o hg; omega)) bX.out.size)
      clear HO
      go_wp2
      clear t0 t1 tz0 tz1 rr2 o0 o1
      generalize (wr.setCell ⟨w.heap.size + 1, 0, none⟩ (.int .i64 n)).setCell ⟨w.heap.size + 1, 1, none⟩ (.slice p9 (Ch.wo L l k).length cp9) = W at *
      refine bodyPost_ret (v := (.agg #[.int .i64 n, .slice p9 (Ch.wo L l k).length cp9])) (by simp [results, Try.results67, go_sem, q0, q1]) rfl ?_
      exact ⟨_, rfl, hown.out, hB4⟩
end Go.Proofs.Ytkcchangkhklcaa

/- Contracts of the specification: SameTable, at two tables of as many rows. -/
namespace Go.Proofs.Ytkcchangkhklcaa
open Go.RowKit

theorem row_list {W : World} {sb N : Nat} {f : Nat → Int} (h : W.rowIs sb 3 N (fun j => .int .i64 (f j))) : IntsAt W (some ⟨sb, 0, none⟩) ((List.range N).map f) :=
  ints_of_row h (fun i hi => by rw [List.getD, List.getElem?_map, List.getElem?_range hi]; rfl) (by simp)
theorem range_eq {N : Nat} {f g : Nat → Int} : (List.range N).map f = (List.range N).map g ↔ ∀ i, i < N → f i = g i := by
  rw [List.map_inj_left]
  exact ⟨fun h i hi => h i (List.mem_range.2 hi), fun h i hi => h i (List.mem_range.1 hi)⟩

set_option maxRecDepth 100000 in
set_option maxHeartbeats 4000000 in
theorem sameTable_two (N ob ob2 ca cb : Nat) (R1 R2 : Nat → Nat) (hN : N ≤ 1000) (D E : Nat → Nat → Int) (r : Bool) (hr : Hid ((∀ u, u < N → ∀ v, v < N → D u v = E u v) ↔ r = true)) (w : World) (h1 : Hid (TB2 N ob R1 D w)) (h2 : Hid (TB2 N ob2 R2 E w)) :
    Calls Try.prog 28 #[.slice (some ⟨ob, 0, none⟩) N ca, .slice (some ⟨ob2, 0, none⟩) N cb] w fun e w' => e = .returned (.bool r) ∧ Below w.heap.size w w' := by
  have g1 : ((N : Int) != (N : Int)) = false := by simp
  go_enter Try.func28, Try.ntmps28
  go_wp2
  go_loopw [5] (fun i wr => ∃ k : Nat, k ≤ N ∧ i = .int .i64 k ∧ Hid (TB2 N ob R1 D wr) ∧ Hid (TB2 N ob2 R2 E wr) ∧ Hid (Below w.heap.size w wr) ∧ Hid (∀ u, u < k → ∀ v, v < N → D u v = E u v)) (fun i _ => N - (RowKit.intOf i).toNat)
  case atStart => exact ⟨0, Nat.zero_le _, rfl, h1, h2, Lib.hid (Below.refl _ _), Lib.hid fun u hu => by omega⟩
  case round =>
    clear h1 h2
    obtain ⟨k, hk, rfl, h1, h2, hB, hsm⟩ := hrel
    by_cases hlt : k < N
    · have hi5 : (k : Int) < (N : Int) := by omega
      have hi6 : (0 : Int) ≤ (k : Int) := by omega
      have r1 := h1.out.o k hlt
      have r2 := h2.out.o k hlt
      obtain ⟨b, hb9⟩ : ∃ b, decide ((List.range N).map (D k) = (List.range N).map (E k)) = b := ⟨_, rfl⟩
      have hlen : ((List.range N).map (D k)).length = N := by simp
      have HS := sameInts_any (some ⟨R1 k, 0, none⟩) (some ⟨R2 k, 0, none⟩) N N _ _ (by omega) wr.drew (row_list (h1.out.r k hlt).drew) (row_list (h2.out.r k hlt).drew)
      have hlen2 : ((List.range N).map (E k)).length = N := by simp
      rw [hlen, hlen2, hb9] at HS
      replace HS := Lib.hid HS
      replace hb9 := Lib.hid hb9
      have T1 := Lib.hid fun (W : World) (hb : Below wr.drew.heap.size wr.drew W) => h1.out.below (Below.trans (Below.refl wr.heap.size wr).drew hb)
      have T2 := Lib.hid fun (W : World) (hb : Below wr.drew.heap.size wr.drew W) => h2.out.below (Below.trans (Below.refl wr.heap.size wr).drew hb)
      have T3 := Lib.hid fun (W : World) (hb : Below wr.drew.heap.size wr.drew W) => hB.out.trans ((Below.trans (Below.refl wr.heap.size wr).drew hb).mono hB.out.size)
      have S0' : wr.drew.cell? ⟨ob, k, none⟩ = some (.slice (some ⟨R1 k, 0, none⟩) N N) ∧ wr.drew.cell? ⟨ob2, k, none⟩ = some (.slice (some ⟨R2 k, 0, none⟩) N N) := ⟨r1, r2⟩
      clear r1 r2 hlen hlen2 h1 h2 hB
      go_upto_region 6 with fail
      go_region_held3 (fun w' => w'.cell? ⟨ob, k, none⟩ = some (.slice (some ⟨R1 k, 0, none⟩) N N) ∧ w'.cell? ⟨ob2, k, none⟩ = some (.slice (some ⟨R2 k, 0, none⟩) N N))
        (first | with_reducible exact S0' | with_reducible exact keepY (by assumption) hbp)
        (first
        | (go_at_call 16
           with_reducible refine HS.out.mono ?_
           rintro e wp1 ⟨he, hbp⟩
           subst he
           skip))
      have h1 := Lib.hid (T1.out _ hbp)
      have h2 := Lib.hid (T2.out _ hbp)
      have hB := Lib.hid (T3.out _ hbp)
      clear hbp T1 T2 T3
      cases b
      · obtain rfl : false = r := by
          cases r
          · rfl
          · exact absurd (range_eq.2 (hr.out.2 rfl k hlt)) (of_decide_eq_false hb9.out)
        clear hr hsm hb9
        go_wp2
        go_ret
        exact ⟨rfl, hB.out⟩
      · have hsm2 : Hid (∀ u, u < k + 1 → ∀ v, v < N → D u v = E u v) := Lib.hid fun u hu v hv => by
          by_cases e : u = k
          · subst e; exact range_eq.1 (of_decide_eq_true hb9.out) v hv
          · exact hsm.out u (by omega) v hv
        clear hsm hb9
        go_wp2
        go_roundw
        case rel => exact ⟨k + 1, by omega, by go_num, h1, h2, hB, hsm2⟩
        case measure => show N - ((k : Int) + 1).toNat < N - (k : Int).toNat; omega
    · obtain rfl : k = N := by omega
      have hi5 : ¬ (k : Int) < (k : Int) := by omega
      obtain rfl : true = r := (hr.out.1 hsm.out).symm
      clear hr hsm
      go_wp2
      go_ret
      exact ⟨rfl, hB.out⟩
end Go.Proofs.Ytkcchangkhklcaa
