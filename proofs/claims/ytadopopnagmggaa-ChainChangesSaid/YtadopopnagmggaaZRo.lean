/- Contracts of the specification: Without. -/
import Derived.Test.YtadopopnagmggaaZRw
import Derived.Test.YtadopopnagmggaaZHs
import Derived.Test.YtadopopnagmggaaZ06
set_option linter.unusedSimpArgs false
set_option linter.unusedVariables false
namespace Ch
/-- the first j links but those of 'which' -/
def wo (L : List Lk) (which : List Int) (j : Nat) : List Lk := ((List.range j).filter fun i : Nat => !decide ((i : Int) ∈ which)).map fun i => L.getD i noLk
theorem wo_hit {L : List Lk} {which : List Int} {j : Nat} (h : decide ((j : Int) ∈ which) = false) : wo L which (j + 1) = wo L which j ++ [L.getD j noLk] := by
  unfold wo
  rw [List.range_succ, List.filter_append, List.filter_cons, h, List.map_append]
  rfl
theorem wo_miss {L : List Lk} {which : List Int} {j : Nat} (h : decide ((j : Int) ∈ which) = true) : wo L which (j + 1) = wo L which j := by
  unfold wo
  rw [List.range_succ, List.filter_append, List.filter_cons, h]
  simp
theorem wo_len (L : List Lk) (which : List Int) (j : Nat) : (wo L which j).length ≤ j := by
  unfold wo
  have := List.length_filter_le (fun i : Nat => !decide ((i : Int) ∈ which)) (List.range j)
  simpa using this
end Ch
namespace Go.Proofs.Ytadopopnagmggaa
open Go.RowKit

/-- a system whose links are being gathered: its box, the links of its own; all else is as it was -/
structure WO (Y W : World) (ob : Nat) (n : Int) (v : Value) (pre : List Ch.Lk) : Prop where
  r : W.rowIs ob 24 2 (fun i => if i = 0 then .int .i64 n else v)
  o : W.ownsRow Y.heap.size 68 3 v pre.length (lkCells pre)
  b : But (fun k => k = ob) Y W
  lt : ob < Y.heap.size
theorem WO.drewN {Y W W' : World} {ob : Nat} {n : Int} {v : Value} {pre : List Ch.Lk} (h : WO Y W ob n v pre) (hb : Below W.heap.size W W') : WO Y W' ob n v pre :=
  ⟨Below.row hb h.r, owns_but (T := fun _ => False) h.o ((But.of_below hb).mono (fun _ _ h => h)) (fun _ _ h => h), h.b.trans (.of_below hb), h.lt⟩
/-- one link more: behind the append, and the store -/
theorem WO.push {Y W W1 W2 : World} {ob : Nat} {n : Int} {v : Value} {pre : List Ch.Lk} {l : Ch.Lk} {p : Option Addr} {cp q : Nat} (h : WO Y W ob n v pre) (h1 : Below W.heap.size W W1) (hg : W1.grownBy W2 v.ownBlock) (ho : W2.ownsRow Y.heap.size 68 3 (.slice p q cp) (pre.length + 1) (lkCells (pre ++ [l]))) :
    WO Y (W2.setCell ⟨ob, 1, none⟩ (.slice p q cp)) ob n (.slice p q cp) (pre ++ [l]) ∧ W2.rowIs ob 24 2 (fun i => if i = 0 then .int .i64 n else v) := by
  have ho1 : W1.ownsRow Y.heap.size 68 3 v pre.length (lkCells pre) := owns_but (T := fun _ => False) h.o ((But.of_below h1).mono (fun _ _ h => h)) (fun _ _ h => h)
  have hb2 : But (fun k => v.ownBlock = some k) W1 W2 := ⟨hg.os, hg.tape, hg.output, hg.size, fun k hk hn => hg.block k hk (fun e => hn e.symm)⟩
  have hlt := h.lt
  have hnob : ¬ v.ownBlock = some ob := fun e => by have := owns_far h.o e; omega
  have r2 : W2.rowIs ob 24 2 (fun i => if i = 0 then .int .i64 n else v) := hb2.row (Below.row h1 h.r) hnob
  refine ⟨⟨(r2.set 1 _).congr (fun i hi => ?_), ?_, ?_, h.lt⟩, r2⟩
  · by_cases e : i = 1
    · subst e; simp
    · have : i = 0 := by omega
      subst this; simp
  · rw [List.length_append]
    refine owns_but ho ((But.refl (fun g => g = ob) W2).setCell (p := ⟨ob, 1, none⟩) (.inr rfl) _) (fun g hg2 e => ?_)
    have := owns_far ho hg2
    omega
  · have hY : But (fun k => k = ob) Y W2 := by
      have hb1 := h.b.trans (.of_below h1)
      refine ⟨hb2.os.trans hb1.os, hb2.tape.trans hb1.tape, hb2.output.trans hb1.output, Nat.le_trans hb1.size hb2.size, fun k hk hn => (hb2.block k (Nat.lt_of_lt_of_le hk hb1.size) (fun e => ?_)).trans (hb1.block k hk hn)⟩
      have := owns_far h.o e
      omega
    exact hY.setCell (p := ⟨ob, 1, none⟩) (.inr rfl) _
theorem cell_far {W W1 : World} {v : Value} {B : Nat} {p : Addr} {x : Value} (hg : W.grownBy W1 v.ownBlock) (hf : ∀ g, v.ownBlock = some g → B ≤ g) (hp : p.block < B) (h : W.cell? p = some x) : W1.cell? p = some x :=
  (World.cell?_of_block (hg.block _ (block_lt_of_cell h) (fun e => by have := hf _ e.symm; omega))).trans h
theorem lks_one (W : World) (f t mo : Int) : LksAt (W.alloc (Obj.cells #[.int .i64 f, .int .i64 t, .int .i64 mo] 68)) (some ⟨W.heap.size, 0, none⟩) [⟨f, t, mo⟩] := lks_block (fun j u hu => by
  have h := World.alloc_heap_new W (Obj.cells #[.int .i64 f, .int .i64 t, .int .i64 mo] 68)
  simp only [World.cell?, h]
  rw [← hu, ← Array.getElem?_toList]
  rfl)

set_option linter.unusedSimpArgs false in
set_option maxRecDepth 100000 in
set_option maxHeartbeats 4000000 in
theorem rwithout_any (n : Int) (a b : Option Addr) (m q cap cap2 : Nat) (L : List Ch.Lk) (l : List Int) (hm : Hid (L.length = m)) (hq : Hid (l.length = q)) (hm9 : m ≤ 1000) (hq9 : q ≤ 1000) (w : World) (hL : Hid (LksAt w a L)) (hl : Hid (IntsAt w b l)) :
    Calls Try.prog 29 #[sysV n a m cap, .slice b q cap2] w (RwPost w n (Ch.wo L l m)) := by
  unfold sysV
  go_enter Try.func29, Try.ntmps29
  go_upto_region 2 with fail
  have c0 : (((w.alloc (Obj.cells #[.int .i64 n, .slice a m cap] 24)).alloc (Obj.cells #[.int .i64 0, .slice none 0 0] 24)).alloc (Obj.cells #[.int .i64 n, .slice none 0 0] 24)).cell? ⟨w.heap.size, 0, none⟩ = some (.int .i64 n) := by simp [go_sem]
  have c1 : (((w.alloc (Obj.cells #[.int .i64 n, .slice a m cap] 24)).alloc (Obj.cells #[.int .i64 0, .slice none 0 0] 24)).alloc (Obj.cells #[.int .i64 n, .slice none 0 0] 24)).cell? ⟨w.heap.size, 1, none⟩ = some (.slice a m cap) := by simp [go_sem]
  have bX : Below w.heap.size w (((w.alloc (Obj.cells #[.int .i64 n, .slice a m cap] 24)).alloc (Obj.cells #[.int .i64 0, .slice none 0 0] 24)).alloc (Obj.cells #[.int .i64 n, .slice none 0 0] 24)) := below_alloc (below_alloc (below_alloc (Below.refl _ _) _) _) _
  have rX : (((w.alloc (Obj.cells #[.int .i64 n, .slice a m cap] 24)).alloc (Obj.cells #[.int .i64 0, .slice none 0 0] 24)).alloc (Obj.cells #[.int .i64 n, .slice none 0 0] 24)).rowIs (w.heap.size + 1) 24 2 (fun i => if i = 0 then .int .i64 0 else .slice none 0 0) := by
    have h := (sysRow (X := w.alloc (Obj.cells #[.int .i64 n, .slice a m cap] 24)) (n := 0) (p := none) (m := 0)).alloc (Obj.cells #[.int .i64 n, .slice none 0 0] 24)
    simpa using h
  have rO : (((w.alloc (Obj.cells #[.int .i64 n, .slice a m cap] 24)).alloc (Obj.cells #[.int .i64 0, .slice none 0 0] 24)).alloc (Obj.cells #[.int .i64 n, .slice none 0 0] 24)).rowIs (w.heap.size + 1 + 1) 24 2 (fun i => if i = 0 then .int .i64 n else .slice none 0 0) := by
    have h := sysRow (X := (w.alloc (Obj.cells #[.int .i64 n, .slice a m cap] 24)).alloc (Obj.cells #[.int .i64 0, .slice none 0 0] 24)) (n := n) (p := none) (m := 0)
    simpa using h
  have zX : (((w.alloc (Obj.cells #[.int .i64 n, .slice a m cap] 24)).alloc (Obj.cells #[.int .i64 0, .slice none 0 0] 24)).alloc (Obj.cells #[.int .i64 n, .slice none 0 0] 24)).heap.size = w.heap.size + 3 := by simp
  replace rX := Lib.hid rX
  replace zX := Lib.hid zX
  generalize ((w.alloc (Obj.cells #[.int .i64 n, .slice a m cap] 24)).alloc (Obj.cells #[.int .i64 0, .slice none 0 0] 24)).alloc (Obj.cells #[.int .i64 n, .slice none 0 0] 24) = Y at *
  have lX : w.heap.size + 2 < Y.heap.size := by have := zX.out; omega
  have hWO := Lib.hid (WO.mk (Y := Y) (W := Y) (ob := w.heap.size + 1 + 1) (n := n) (v := .slice none 0 0) (pre := []) rO (World.ownsRow_nil _ _ _ _) (But.refl _ _) (by omega))
  replace c0 := Lib.hid c0
  replace c1 := Lib.hid c1
  clear rO
  replace bX := Lib.hid bX
  go_wp2
  go_loopw [6] (fun i wr => ∃ (k : Nat) (v : Value), k ≤ m ∧ i = .int .i64 k ∧ Hid (WO Y wr (w.heap.size + 1 + 1) n v (Ch.wo L l k))) (fun i _ => m - (RowKit.intOf i).toNat)
  case atStart => exact ⟨0, _, Nat.zero_le _, rfl, hWO⟩
  case round =>
    clear hWO
    obtain ⟨k, v, hk, rfl, HO⟩ := hrel
    have k1 := (HO.out.b.cell (p := ⟨w.heap.size, 1, none⟩) (by show w.heap.size < _; omega) (by show ¬ w.heap.size = _; omega)).trans c1.out
    have hbA := Lib.hid (bX.out.trans (HO.out.b.below bX.out.size (fun k hk e => by omega)))
    by_cases hlt : k < m
    · have hi5 : (k : Int) < (m : Int) := by omega
      have hi6 : (0 : Int) ≤ (k : Int) := by omega
      obtain ⟨y, hy, hl3⟩ := hL.out k (by have := hm.out; omega)
      subst hy
      have ⟨g0, g1, g2⟩ := hl3.below hbA.out
      have hhit := Ch.wo_hit (L := L) (which := l) (j := k)
      have hmiss := Ch.wo_miss (L := L) (which := l) (j := k)
      obtain ⟨f, t, mo, hlk⟩ : ∃ f t mo, L.getD k Ch.noLk = ⟨f, t, mo⟩ := ⟨_, _, _, rfl⟩
      rw [hlk] at g0 g1 g2 hhit
      simp only at g0 g1 g2
      have HH := Lib.hid fun (W : World) (hw : IntsAt W b l) (r : Bool) (hr : decide ((k : Int) ∈ l) = r) => has_any b q cap2 l (k : Int) hq hq9 r (Lib.hid hr) W (Lib.hid hw)
      have by0 : (y.add (k * 3)).block < w.heap.size := block_lt_of_cell hl3.1
      have bsz := bX.out.size
      clear hl3 hlk
      cases hd : decide ((k : Int) ∈ l)
      · have HH2 := Lib.hid (HH.out wr (hl.out.below hbA.out) false hd)
        replace hhit := Lib.hid (hhit hd)
        have hlen := Ch.wo_len L l k
        clear HH hd hmiss
        go_wp2_with fail
        refine HH2.out.mono ?_
        rintro e w2 ⟨rfl, hw2⟩
        subst hw2
        go_upto_region 6 with fail
        have o1 : w2.cell? ⟨w.heap.size + 1 + 1, 1, none⟩ = some v := HO.out.r.cell (i := 1) (by omega)
        have S0 : w2.drew.cell? ⟨w.heap.size, 1, none⟩ = some (.slice (some y) m cap) ∧ w2.drew.cell? ⟨w.heap.size + 1 + 1, 1, none⟩ = some v ∧ w2.drew.cell? (y.add (k * 3)) = some (.int .i64 f) ∧ w2.drew.cell? ⟨(y.add (k * 3)).block, (y.add (k * 3)).off + 1, none⟩ = some (.int .i64 t) ∧ w2.drew.cell? ⟨(y.add (k * 3)).block, (y.add (k * 3)).off + 2, none⟩ = some (.int .i64 mo) := ⟨k1, o1, g0, g1, g2⟩
        clear HH2 k1 g0 g1 g2
        refine region_head_held 9 (fun w' => w'.cell? ⟨w.heap.size, 1, none⟩ = some (.slice (some y) m cap) ∧ w'.cell? ⟨w.heap.size + 1 + 1, 1, none⟩ = some v ∧ w'.cell? (y.add (k * 3)) = some (.int .i64 f) ∧ w'.cell? ⟨(y.add (k * 3)).block, (y.add (k * 3)).off + 1, none⟩ = some (.int .i64 t) ∧ w'.cell? ⟨(y.add (k * 3)).block, (y.add (k * 3)).off + 2, none⟩ = some (.int .i64 mo)) (by kernel_rfl) (by kernel_rfl) S0 (fun hHeld => ?_)
        simp only [List.take_succ_cons, List.take_zero, List.drop_succ_cons, List.drop_zero]
        refine wpAnyH_take (i := 0) (v := ?_) rfl (by kernel_rfl) (by kernel_rfl) (by kernel_rfl) (fun _ _ _ h => h) (Or.inl ⟨by rfl, ?_⟩) (by assumption) ?_
        rotate_left 1
        · (intro w hSw; (try dsimp only at hSw); go_simp; all_goals with_reducible rfl)
        try simp only [Act.put, List.setIfInBounds_toArray, List.set_cons_zero, List.set_cons_succ]
        refine wpAnyH_take (i := 1) (v := ?_) rfl (by kernel_rfl) (by kernel_rfl) (by kernel_rfl) (fun _ _ _ h => h) (Or.inl ⟨by rfl, ?_⟩) (by assumption) ?_
        rotate_left 1
        · (intro w hSw; (try dsimp only at hSw); go_simp; all_goals with_reducible rfl)
        try simp only [Act.put, List.setIfInBounds_toArray, List.set_cons_zero, List.set_cons_succ]
        refine wpAnyH_take (i := 2) (v := ?_) rfl (by kernel_rfl) (by kernel_rfl) (by kernel_rfl) (fun _ _ _ h => h) (Or.inl ⟨by rfl, ?_⟩) (by assumption) ?_
        rotate_left 1
        · (intro w hSw; (try dsimp only at hSw); go_simp; all_goals with_reducible rfl)
        try simp only [Act.put, List.setIfInBounds_toArray, List.set_cons_zero, List.set_cons_succ]
        refine wpAnyH_take (i := 3) (v := ?_) rfl (by kernel_rfl) (by kernel_rfl) (by kernel_rfl) (fun _ _ _ h => h) (Or.inl ⟨by rfl, ?_⟩) (by assumption) ?_
        rotate_left 1
        · (intro w hSw; (try dsimp only at hSw); go_simp; all_goals with_reducible rfl)
        try simp only [Act.put, List.setIfInBounds_toArray, List.set_cons_zero, List.set_cons_succ]
        refine wpAnyH_take (i := 4) (v := ?_) rfl (by kernel_rfl) (by kernel_rfl) (by kernel_rfl) (fun _ _ _ h => h) (Or.inl ⟨by rfl, ?_⟩) (by assumption) ?_
        rotate_left 1
        · (intro w hSw; (try dsimp only at hSw); go_simp; all_goals with_reducible rfl)
        try simp only [Act.put, List.setIfInBounds_toArray, List.set_cons_zero, List.set_cons_succ]
        refine wpAnyH_take (i := 5) (v := ?_) rfl (by kernel_rfl) (by kernel_rfl) (by kernel_rfl) (fun _ _ _ h => h) (Or.inl ⟨by rfl, ?_⟩) (by assumption) ?_
        rotate_left 1
        · (intro w hSw; (try dsimp only at hSw); go_simp; all_goals with_reducible rfl)
        try simp only [Act.put, List.setIfInBounds_toArray, List.set_cons_zero, List.set_cons_succ]
        refine wpAnyH_take (i := 6) (v := ?_) rfl (by kernel_rfl) (by kernel_rfl) (by kernel_rfl) (fun _ _ _ h => h) (Or.inl ⟨by rfl, ?_⟩) (by assumption) ?_
        rotate_left 1
        · (intro w hSw; (try dsimp only at hSw); go_simp; all_goals with_reducible rfl)
        try simp only [Act.put, List.setIfInBounds_toArray, List.set_cons_zero, List.set_cons_succ]
        refine wpAnyH_ready (rs := [7]) (by kernel_rfl) (by simp) ?_
        refine AllReadyH.cons rfl (fun K hK => ?_) ?_
        rotate_left 1
        · exact AllReadyH.nil
        go_simp
        obtain ⟨s1, s2, s3, s4, s5⟩ := hHeld
        have T0 : (w2.alloc (Obj.cells #[.int .i64 f, .int .i64 t, .int .i64 mo] 68)).drew.cell? ⟨w.heap.size, 1, none⟩ = some (.slice (some y) m cap) ∧ (w2.alloc (Obj.cells #[.int .i64 f, .int .i64 t, .int .i64 mo] 68)).drew.cell? ⟨w.heap.size + 1 + 1, 1, none⟩ = some v ∧ (w2.alloc (Obj.cells #[.int .i64 f, .int .i64 t, .int .i64 mo] 68)).drew.cell? (y.add (k * 3)) = some (.int .i64 f) ∧ (w2.alloc (Obj.cells #[.int .i64 f, .int .i64 t, .int .i64 mo] 68)).drew.cell? ⟨(y.add (k * 3)).block, (y.add (k * 3)).off + 1, none⟩ = some (.int .i64 t) ∧ (w2.alloc (Obj.cells #[.int .i64 f, .int .i64 t, .int .i64 mo] 68)).drew.cell? ⟨(y.add (k * 3)).block, (y.add (k * 3)).off + 2, none⟩ = some (.int .i64 mo) := ⟨cell_alloc s1 _, cell_alloc s2 _, cell_alloc s3 _, cell_alloc s4 _, cell_alloc s5 _⟩
        refine hK.out _ _ T0 (fun hHeld2 => ?_)
        clear hK K
        try simp only [Act.put, List.setIfInBounds_toArray, List.set_cons_zero, List.set_cons_succ]
        refine wpAnyH_ready (rs := [8]) (by kernel_rfl) (by simp) ?_
        refine AllReadyH.cons rfl (fun K hK => ?_) ?_
        rotate_left 1
        · exact AllReadyH.nil
        have hbW : Below w2.heap.size w2 (w2.alloc (Obj.cells #[.int .i64 f, .int .i64 t, .int .i64 mo] 68)).drew := ((Below.refl w2.heap.size w2).alloc (Nat.le_refl _) _).drew
        have hY2 := HO.out.b.size
        refine step_append_lks (by rfl) _ _ (by rfl) Y.heap.size v (Ch.wo L l k).length (Ch.wo L l k) (by rfl) ((HO.out.o.alloc _).drew) (some ⟨w2.heap.size, 0, none⟩) 1 1 [⟨f, t, mo⟩] rfl (by rfl) ((lks_one w2 f t mo).below (Below.refl _ _).drew) (fun h => by cases h) (by omega) (Nat.le_trans hY2 hbW.size) ?_
        intro p1 cp1 wp1 hown1 hgrow1
        have hfar : ∀ g, v.ownBlock = some g → Y.heap.size ≤ g := fun g hg => owns_far HO.out.o hg
        obtain ⟨u1, u2, u3, u4, u5⟩ := hHeld2
        refine hK.out _ _ ⟨cell_far hgrow1 hfar (by show w.heap.size < _; omega) u1, cell_far hgrow1 hfar (by show w.heap.size + 1 + 1 < _; omega) u2, cell_far hgrow1 hfar (by omega) u3, cell_far hgrow1 hfar (by show (y.add (k * 3)).block < _; omega) u4, cell_far hgrow1 hfar (by show (y.add (k * 3)).block < _; omega) u5⟩ (fun hHeld3 => ?_)
        clear hK K
        try simp only [Act.put, List.setIfInBounds_toArray, List.set_cons_zero, List.set_cons_succ]
        refine wpAnyH_done (by kernel_rfl) ?_ _
        show wpList _ _ _ _ _ _
        obtain ⟨HP, r2⟩ := HO.out.push hbW hgrow1 hown1
        have t1 := r2.cell (i := 1) (by omega)
        have tz1 := r2.frozen 1
        simp only [Nat.one_ne_zero, if_false] at t1
        replace HP := Lib.hid HP
        clear hown1 hgrow1 hfar hHeld3 u1 u2 u3 u4 u5 s1 s2 s3 s4 s5 T0 S0 HO r2 hbW hbA
        go_wp2
        go_roundw
        case rel => exact ⟨k + 1, _, by omega, by go_num, Lib.hid (by rw [hhit.out]; exact HP.out)⟩
        case measure => show m - ((k : Int) + 1).toNat < m - (k : Int).toNat; omega
      · have HH2 := Lib.hid (HH.out wr (hl.out.below hbA.out) true hd)
        replace hmiss := Lib.hid (hmiss hd)
        clear HH hd hhit g0 g1 g2
        go_wp2_with fail
        refine HH2.out.mono ?_
        rintro e w2 ⟨rfl, hw2⟩
        subst hw2
        go_wp2
        go_roundw
        case rel => exact ⟨k + 1, v, by omega, by go_num, Lib.hid (by rw [hmiss.out]; exact HO.out)⟩
        case measure => show m - ((k : Int) + 1).toNat < m - (k : Int).toNat; omega
    · obtain rfl : k = m := by omega
      have hi5 : ¬ (k : Int) < (k : Int) := by omega
      obtain ⟨p9, cp9, hv9, _⟩ := owns_slice HO.out.o
      subst hv9
      have o0 : wr.cell? ⟨w.heap.size + 1 + 1, 0, none⟩ = some (.int .i64 n) := HO.out.r.cell (i := 0) (by omega)
      have o1 : wr.cell? ⟨w.heap.size + 1 + 1, 1, none⟩ = some (.slice p9 (Ch.wo L l k).length cp9) := HO.out.r.cell (i := 1) (by omega)
      have rr2 := Lib.hid (rX.out.of_block (HO.out.b.block _ rX.out.lt (by show ¬ w.heap.size + 1 = w.heap.size + 1 + 1; omega)))
      have t0 := rr2.out.cell (i := 0) (by omega)
      have t1 := rr2.out.cell (i := 1) (by omega)
      have tz0 := rr2.out.frozen 0
      have tz1 := rr2.out.frozen 1
      simp only [if_true, Nat.one_ne_zero, if_false] at t0 t1
      have q0 : ((wr.setCell ⟨w.heap.size + 1, 0, none⟩ (.int .i64 n)).setCell ⟨w.heap.size + 1, 1, none⟩ (.slice p9 (Ch.wo L l k).length cp9)).cell? ⟨w.heap.size + 1, 0, none⟩ = some (.int .i64 n) := ((rr2.out.set 0 _).set 1 _).cell (i := 0) (by omega)
      have q1 : ((wr.setCell ⟨w.heap.size + 1, 0, none⟩ (.int .i64 n)).setCell ⟨w.heap.size + 1, 1, none⟩ (.slice p9 (Ch.wo L l k).length cp9)).cell? ⟨w.heap.size + 1, 1, none⟩ = some (.slice p9 (Ch.wo L l k).length cp9) := ((rr2.out.set 0 _).set 1 _).cell (i := 1) (by omega)
      have hB4 : Below w.heap.size w ((wr.setCell ⟨w.heap.size + 1, 0, none⟩ (.int .i64 n)).setCell ⟨w.heap.size + 1, 1, none⟩ (.slice p9 (Ch.wo L l k).length cp9)) := (hbA.out.setCell (p := ⟨w.heap.size + 1, 0, none⟩) (by simp) (.int .i64 n)).setCell (p := ⟨w.heap.size + 1, 1, none⟩) (by simp) _
      have hown := Lib.hid (owns_base (base' := w.heap.size) (owns_but HO.out.o (((But.refl (fun g => g = w.heap.size + 1) wr).setCell (p := ⟨w.heap.size + 1, 0, none⟩) (.inr rfl) (.int .i64 n)).setCell (p := ⟨w.heap.size + 1, 1, none⟩) (.inr rfl) (.slice p9 (Ch.wo L l k).length cp9)) (fun g hg e => by have := owns_far HO.out.o hg; omega)) bX.out.size)
      clear HO
      go_wp2
      clear t0 t1 tz0 tz1 rr2 o0 o1
      generalize (wr.setCell ⟨w.heap.size + 1, 0, none⟩ (.int .i64 n)).setCell ⟨w.heap.size + 1, 1, none⟩ (.slice p9 (Ch.wo L l k).length cp9) = W at *
      refine bodyPost_ret (v := (.agg #[.int .i64 n, .slice p9 (Ch.wo L l k).length cp9])) (by simp [results, Try.results29, go_sem, q0, q1]) rfl ?_
      exact ⟨_, rfl, hown.out, hB4⟩
end Go.Proofs.Ytadopopnagmggaa
