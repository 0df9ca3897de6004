/- The law ChainChanges, walked. -/
import Derived.Test.YtadopopnagmggaaZWt
import Derived.Test.YtadopopnagmggaaZLb
import Derived.Test.YtadopopnagmggaaZRu
import Derived.Test.YtadopopnagmggaaZYa
set_option linter.unusedSimpArgs false
set_option linter.unusedVariables false
namespace Ch
theorem withE_bad {n : Int} {L L2 : List Lk} (h : (check n L).1 ≠ 0) : withE n L L2 = (check n L).1 := by unfold withE; rw [if_pos h]
theorem withE_ok {n : Int} {L L2 : List Lk} (h : (check n L).1 = 0) : withE n L L2 = (check n (L ++ L2)).1 := by
  obtain ⟨n1, n2, hm, _⟩ := check_ok h
  unfold withE
  rw [if_neg (by simpa using h)]
  by_cases h2 : (300 : Int) - L.length < L2.length
  · rw [if_pos h2, check_l (by omega) (by rw [List.length_append]; omega)]
  · rw [if_neg h2]
end Ch
namespace Go.Proofs.Ytadopopnagmggaa
open Go.RowKit

/-- the world in the law -/
structure CJ (w : World) (n : Int) (a b d : Option Addr) (m cap : Nat) (L L2 : List Ch.Lk) (xs : List Int) (W : World) : Prop where
  c0 : W.cell? ⟨w.heap.size, 0, none⟩ = some (.int .i64 n)
  c1 : W.cell? ⟨w.heap.size, 1, none⟩ = some (.slice a m cap)
  l : LksAt W a L
  x : LksAt W b L2
  y : IntsAt W d xs
  b : Below w.heap.size w W
theorem CJ.below {w W W' : World} {n : Int} {a b d : Option Addr} {m cap : Nat} {L L2 : List Ch.Lk} {xs : List Int} (h : CJ w n a b d m cap L L2 xs W) (hb : Below W.heap.size W W') : CJ w n a b d m cap L L2 xs W' := ⟨kept1 h.c0 hb, kept1 h.c1 hb, h.l.below hb, h.x.below hb, h.y.below hb, h.b.trans (hb.mono h.b.size)⟩
theorem same_none (w : World) : Calls Try.prog 28 #[.agg #[.int .i64 0, .slice none 0 0], .agg #[.int .i64 0, .slice none 0 0]] w fun e w' => e = .returned (.bool true) ∧ Below w.heap.size w w' :=
  same_any 0 0 none none 0 0 0 0 [] [] (Lib.hid rfl) (Lib.hid rfl) (by omega) true (Lib.hid (by simp)) w (Lib.hid fun k hk => by simp at hk) (Lib.hid fun k hk => by simp at hk)

set_option linter.unusedSimpArgs false in
set_option maxRecDepth 100000 in
set_option maxHeartbeats 8000000 in
theorem changes_bad (n : Int) (a b d : Option Addr) (m cap p q c1 c2 : Nat) (L L2 : List Ch.Lk) (xs : List Int) (hm : Hid (L.length = m)) (hp : Hid (L2.length = p)) (hq : Hid (xs.length = q)) (hp9 : p ≤ 30) (hq9 : q ≤ 60) (hm9 : m ≤ 310) (hsm : Hid ((decide (m ≤ 310) && decide (n ≤ 70)) = true)) (ha : Hid (a = none → cap = 0)) (hb9 : Hid (b = none → c1 = 0)) (ec : Int) (hck : (Ch.check n L).1 = ec) (hec : ec ≠ 0) (w : World) (hL : Hid (LksAt w a L)) (hx : Hid (LksAt w b L2)) (hy : Hid (IntsAt w d xs)) :
    Calls Try.prog 5 #[sysV n a m cap, .slice b p c1, .slice d q c2] w (LawPost w) := by
  have HSm := Lib.hid fun (W : World) => small_any n a m cap true hsm W
  have HSa := Lib.hid fun (W : World) => sanity_any W
  have HSn := Lib.hid fun (W : World) => same_none W
  have hne : (Ch.check n L).1 ≠ 0 := by rw [hck]; exact hec
  have HWi := Lib.hid fun (W : World) (h : CJ w n a b d m cap L L2 xs W) => with_any n a b m p cap c1 L L2 hm hp ha hb9 (by omega) W (Lib.hid h.l) (Lib.hid h.x)
  have HWt := Lib.hid fun (W : World) (h : CJ w n a b d m cap L L2 xs W) => withoutS_any n a d m q cap c2 L xs hm hq (by omega) W (Lib.hid h.l) (Lib.hid h.y)
  have HEr := Lib.hid fun (W : World) (h : CJ w n a b d m cap L L2 xs W) => rerror_any n a cap L W h.l
  have HRw := Lib.hid fun (W : World) (h : CJ w n a b d m cap L L2 xs W) => rwith_any n a b m p cap c1 L L2 hm hp ha hb9 (by omega) (by omega) W (Lib.hid h.l) (Lib.hid h.x)
  rw [Ch.withE_bad hne, hck] at HWi
  rw [hck] at HWt
  rw [hck, hm.out] at HEr
  unfold sysV at *
  have hn1 : ¬ (30 : Int) < (p : Int) := by omega
  have hn2 : ¬ (60 : Int) < (q : Int) := by omega
  have hz1 : (ec == 0) = false := by rw [beq_eq_false_iff_ne]; exact hec
  have hz2 : (ec != 0) = true := by rw [bne_iff_ne]; exact hec
  have hz3 : (ec == ec) = true := by simp
  have hz4 : (ec != ec) = false := by simp
  clear hck hne
  go_enter Try.func5, Try.ntmps5
  go_wp2_with fail
  refine (HSm.out _).mono ?_
  rintro e w1 ⟨rfl, hb⟩
  have hB1 := bstep1 (Below.refl _ _) hb
  have hJ := Lib.hid (CJ.mk (w := w) (n := n) (a := a) (m := m) (cap := cap) (W := w1) (kept1 (by simp [go_sem]) hb) (kept1 (by simp [go_sem]) hb) (hL.out.below hB1) (hx.out.below hB1) (hy.out.below hB1) hB1)
  clear hb hB1 HSm hsm hL hx hy
  have k0 := hJ.out.c0
  have k1 := hJ.out.c1
  go_wp2_with fail
  refine (HWi.out _ hJ.out).mono ?_
  rintro e w2 ⟨kk, v, rfl, hx1, hx2, hb⟩
  obtain ⟨rfl, rfl⟩ := hx1 hec
  have hJ2 := Lib.hid ((hJ.out.below hb).below ((Below.refl _ _).alloc (Nat.le_refl _) (Obj.cells #[.int .i64 0, .slice none 0 0] 24)))
  have a0 : (w2.alloc (Obj.cells #[.int .i64 0, .slice none 0 0] 24)).cell? ⟨w2.heap.size, 0, none⟩ = some (.int .i64 0) := by simp [go_sem]
  have a1 : (w2.alloc (Obj.cells #[.int .i64 0, .slice none 0 0] 24)).cell? ⟨w2.heap.size, 1, none⟩ = some (.slice none 0 0) := by simp [go_sem]
  clear hb hJ k0 k1 HWi hx1 hx2 w1
  have k0 := hJ2.out.c0
  have k1 := hJ2.out.c1
  go_wp2_with fail
  generalize w2.alloc (Obj.cells #[.int .i64 0, .slice none 0 0] 24) = W2 at *
  generalize w2.heap.size = ab at *
  refine (HWt.out _ hJ2.out).mono ?_
  rintro e w3 ⟨kk, v, rfl, hx1, hx2, hb⟩
  obtain ⟨rfl, rfl⟩ := hx1 hec
  have hA : Below w3.heap.size w3 (w3.alloc (Obj.cells #[.int .i64 0, .slice none 0 0] 24)) := (Below.refl _ _).alloc (Nat.le_refl _) _
  have hJ3 := Lib.hid ((hJ2.out.below hb).below hA)
  have b0 := kept1 (kept1 a0 hb) hA
  have b1 := kept1 (kept1 a1 hb) hA
  have d0 : (w3.alloc (Obj.cells #[.int .i64 0, .slice none 0 0] 24)).cell? ⟨w3.heap.size, 0, none⟩ = some (.int .i64 0) := by simp [go_sem]
  have d1 : (w3.alloc (Obj.cells #[.int .i64 0, .slice none 0 0] 24)).cell? ⟨w3.heap.size, 1, none⟩ = some (.slice none 0 0) := by simp [go_sem]
  clear hb hJ2 k0 k1 HWt hx1 hx2 hA a0 a1 W2
  have k0 := hJ3.out.c0
  have k1 := hJ3.out.c1
  go_wp2_with fail
  generalize w3.alloc (Obj.cells #[.int .i64 0, .slice none 0 0] 24) = W3 at *
  generalize w3.heap.size = bb at *
  refine (HEr.out _ hJ3.out).mono ?_
  rintro e w4 ⟨rfl, hb⟩
  have hJ4 := Lib.hid (hJ3.out.below hb)
  have a0 := kept1 b0 hb
  have a1 := kept1 b1 hb
  have e0 := kept1 d0 hb
  have e1 := kept1 d1 hb
  clear hb hJ3 k0 k1 HEr b0 b1 d0 d1
  go_upto_region 6 with fail
  have S0 : w4.drew.cell? ⟨bb, 0, none⟩ = some (.int .i64 0) ∧ w4.drew.cell? ⟨bb, 1, none⟩ = some (.slice none 0 0) ∧ Below w4.heap.size w4 w4.drew := ⟨e0, e1, (Below.refl _ _).drew⟩
  refine wp_region_held_drew (S := fun w' => w'.cell? ⟨bb, 0, none⟩ = some (.int .i64 0) ∧ w'.cell? ⟨bb, 1, none⟩ = some (.slice none 0 0) ∧ Below w4.heap.size w4 w') (by kernel_rfl) S0 (fun hHeld => ?_)
  refine wpAnyH_take (i := 0) (v := ?_) rfl (by kernel_rfl) (by kernel_rfl) (by kernel_rfl) (fun _ _ _ h => h) (Or.inl ⟨by kernel_rfl, ?_⟩) (by assumption) ?_
  rotate_left 1
  · (intro w hSw; (try dsimp only at hSw); go_simp; all_goals with_reducible rfl)
  try simp only [Act.put, List.getElem_toArray, List.getElem_cons_succ, List.getElem_cons_zero, List.setIfInBounds_toArray, List.set_cons_zero, List.set_cons_succ]
  refine wpAnyH_take (i := 1) (v := ?_) rfl (by kernel_rfl) (by kernel_rfl) (by kernel_rfl) (fun _ _ _ h => h) (Or.inl ⟨by kernel_rfl, ?_⟩) (by assumption) ?_
  rotate_left 1
  · (intro w hSw; (try dsimp only at hSw); go_simp; all_goals with_reducible rfl)
  try simp only [Act.put, List.getElem_toArray, List.getElem_cons_succ, List.getElem_cons_zero, List.setIfInBounds_toArray, List.set_cons_zero, List.set_cons_succ]
  refine wpAnyH_take (i := 2) (v := ?_) rfl (by kernel_rfl) (by kernel_rfl) (by kernel_rfl) (fun _ _ _ h => h) (Or.inl ⟨by kernel_rfl, ?_⟩) (by assumption) ?_
  rotate_left 1
  · (intro w hSw; (try dsimp only at hSw); go_simp; all_goals with_reducible rfl)
  try simp only [Act.put, List.getElem_toArray, List.getElem_cons_succ, List.getElem_cons_zero, List.setIfInBounds_toArray, List.set_cons_zero, List.set_cons_succ]
  refine wpAnyH_take (i := 3) (v := ?_) rfl (by kernel_rfl) (by kernel_rfl) (by kernel_rfl) (fun _ _ _ h => h) (Or.inl ⟨by kernel_rfl, ?_⟩) (by assumption) ?_
  rotate_left 1
  · (intro w hSw; (try dsimp only at hSw); go_simp; all_goals with_reducible rfl)
  try simp only [Act.put, List.getElem_toArray, List.getElem_cons_succ, List.getElem_cons_zero, List.setIfInBounds_toArray, List.set_cons_zero, List.set_cons_succ]
  refine wpAnyH_take (i := 4) (v := ?_) rfl (by kernel_rfl) (by kernel_rfl) (by kernel_rfl) (fun _ _ _ h => h) (Or.inl ⟨by kernel_rfl, ?_⟩) (by assumption) ?_
  rotate_left 1
  · (intro w hSw; (try dsimp only at hSw); go_simp; all_goals with_reducible rfl)
  try simp only [Act.put, List.getElem_toArray, List.getElem_cons_succ, List.getElem_cons_zero, List.setIfInBounds_toArray, List.set_cons_zero, List.set_cons_succ]
  refine wpAnyH_take (i := 5) (v := ?_) rfl (by kernel_rfl) (by kernel_rfl) (by kernel_rfl) (fun _ _ _ h => h) (Or.inl ⟨by kernel_rfl, ?_⟩) (by assumption) ?_
  rotate_left 1
  · (intro w hSw; (try dsimp only at hSw); go_simp; all_goals with_reducible rfl)
  try simp only [Act.put, List.getElem_toArray, List.getElem_cons_succ, List.getElem_cons_zero, List.setIfInBounds_toArray, List.set_cons_zero, List.set_cons_succ]
  refine wpAnyH_take (i := 6) (v := ?_) rfl (by kernel_rfl) (by kernel_rfl) (by kernel_rfl) (fun _ _ _ h => h) (Or.inl ⟨by kernel_rfl, ?_⟩) (by assumption) ?_
  rotate_left 1
  · (intro w hSw; (try dsimp only at hSw); go_simp; all_goals with_reducible rfl)
  try simp only [Act.put, List.getElem_toArray, List.getElem_cons_succ, List.getElem_cons_zero, List.setIfInBounds_toArray, List.set_cons_zero, List.set_cons_succ]
  refine wpAnyH_take (i := 7) (v := ?_) rfl (by kernel_rfl) (by kernel_rfl) (by kernel_rfl) (fun _ _ _ h => h) (Or.inl ⟨by kernel_rfl, ?_⟩) (by assumption) ?_
  rotate_left 1
  · (intro w hSw; (try dsimp only at hSw); go_simp; all_goals with_reducible rfl)
  try simp only [Act.put, List.getElem_toArray, List.getElem_cons_succ, List.getElem_cons_zero, List.setIfInBounds_toArray, List.set_cons_zero, List.set_cons_succ]
  refine wpAnyH_take (i := 8) (v := ?_) rfl (by kernel_rfl) (by kernel_rfl) (by kernel_rfl) (fun _ _ _ h => h) (Or.inl ⟨by kernel_rfl, ?_⟩) (by assumption) ?_
  rotate_left 1
  · (intro w hSw; (try dsimp only at hSw); go_simp; all_goals with_reducible rfl)
  try simp only [Act.put, List.getElem_toArray, List.getElem_cons_succ, List.getElem_cons_zero, List.setIfInBounds_toArray, List.set_cons_zero, List.set_cons_succ]
  refine wpAnyH_ready (rs := [9]) (by kernel_rfl) (by simp) ?_
  refine AllReadyH.cons rfl (fun K hK => ?_) ?_
  rotate_left 1
  · exact AllReadyH.nil
  rw [if_pos (by kernel_rfl)]
  go_simp
  with_reducible refine (HSn.out _).mono ?_
  rintro e wp1 ⟨rfl, hbp⟩
  have S1 : wp1.cell? ⟨bb, 0, none⟩ = some (.int .i64 0) ∧ wp1.cell? ⟨bb, 1, none⟩ = some (.slice none 0 0) ∧ Below w4.heap.size w4 wp1 := keep2 hHeld hbp
  refine hK.out _ _ S1 (fun hHeld2 => ?_)
  clear hK K
  try simp only [Act.put, List.setIfInBounds_toArray, List.set_cons_zero, List.set_cons_succ]
  refine wpAnyH_take (i := 10) (v := ?_) rfl (by kernel_rfl) (by kernel_rfl) (by kernel_rfl) (fun _ _ _ h => h) (Or.inl ⟨by kernel_rfl, ?_⟩) (by assumption) ?_
  rotate_left 1
  · (intro w hSw; (try dsimp only at hSw); go_simp; all_goals with_reducible rfl)
  try simp only [Act.put, List.getElem_toArray, List.getElem_cons_succ, List.getElem_cons_zero, List.setIfInBounds_toArray, List.set_cons_zero, List.set_cons_succ]
  refine wpAnyH_take (i := 11) (v := ?_) rfl (by kernel_rfl) (by kernel_rfl) (by kernel_rfl) (fun _ _ _ h => h) (Or.inl ⟨by kernel_rfl, ?_⟩) (by assumption) ?_
  rotate_left 1
  · (intro w hSw; (try dsimp only at hSw); go_simp; all_goals with_reducible rfl)
  try simp only [Act.put, List.getElem_toArray, List.getElem_cons_succ, List.getElem_cons_zero, List.setIfInBounds_toArray, List.set_cons_zero, List.set_cons_succ]
  refine wpAnyH_take (i := 12) (v := ?_) rfl (by kernel_rfl) (by kernel_rfl) (by kernel_rfl) (fun _ _ _ h => h) (Or.inl ⟨by kernel_rfl, ?_⟩) (by assumption) ?_
  rotate_left 1
  · (intro w hSw; (try dsimp only at hSw); go_simp; all_goals with_reducible rfl)
  try simp only [Act.put, List.getElem_toArray, List.getElem_cons_succ, List.getElem_cons_zero, List.setIfInBounds_toArray, List.set_cons_zero, List.set_cons_succ]
  refine wpAnyH_take (i := 13) (v := ?_) rfl (by kernel_rfl) (by kernel_rfl) (by kernel_rfl) (fun _ _ _ h => h) (Or.inl ⟨by kernel_rfl, ?_⟩) (by assumption) ?_
  rotate_left 1
  · (intro w hSw; (try dsimp only at hSw); go_simp; all_goals with_reducible rfl)
  try simp only [Act.put, List.getElem_toArray, List.getElem_cons_succ, List.getElem_cons_zero, List.setIfInBounds_toArray, List.set_cons_zero, List.set_cons_succ]
  refine wpAnyH_take (i := 14) (v := ?_) rfl (by kernel_rfl) (by kernel_rfl) (by kernel_rfl) (fun _ _ _ h => h) (Or.inl ⟨by kernel_rfl, ?_⟩) (by assumption) ?_
  rotate_left 1
  · (intro w hSw; (try dsimp only at hSw); go_simp; all_goals with_reducible rfl)
  try simp only [Act.put, List.getElem_toArray, List.getElem_cons_succ, List.getElem_cons_zero, List.setIfInBounds_toArray, List.set_cons_zero, List.set_cons_succ]
  refine wpAnyH_take (i := 15) (v := ?_) rfl (by kernel_rfl) (by kernel_rfl) (by kernel_rfl) (fun _ _ _ h => h) (Or.inl ⟨by kernel_rfl, ?_⟩) (by assumption) ?_
  rotate_left 1
  · (intro w hSw; (try dsimp only at hSw); go_simp; all_goals with_reducible rfl)
  try simp only [Act.put, List.getElem_toArray, List.getElem_cons_succ, List.getElem_cons_zero, List.setIfInBounds_toArray, List.set_cons_zero, List.set_cons_succ]
  refine wpAnyH_take (i := 16) (v := ?_) rfl (by kernel_rfl) (by kernel_rfl) (by kernel_rfl) (fun _ _ _ h => h) (Or.inl ⟨by kernel_rfl, ?_⟩) (by assumption) ?_
  rotate_left 1
  · (intro w hSw; (try dsimp only at hSw); go_simp; all_goals with_reducible rfl)
  try simp only [Act.put, List.getElem_toArray, List.getElem_cons_succ, List.getElem_cons_zero, List.setIfInBounds_toArray, List.set_cons_zero, List.set_cons_succ]
  refine wpAnyH_take (i := 17) (v := undef) rfl (by kernel_rfl) (by kernel_rfl) (by kernel_rfl) (fun _ _ _ h => h) (Or.inr ⟨by kernel_rfl, rfl⟩) (by assumption) ?_
  try simp only [Act.put, List.getElem_toArray, List.getElem_cons_succ, List.getElem_cons_zero, List.setIfInBounds_toArray, List.set_cons_zero, List.set_cons_succ]
  refine wpAnyH_take (i := 18) (v := undef) rfl (by kernel_rfl) (by kernel_rfl) (by kernel_rfl) (fun _ _ _ h => h) (Or.inr ⟨by kernel_rfl, rfl⟩) (by assumption) ?_
  try simp only [Act.put, List.getElem_toArray, List.getElem_cons_succ, List.getElem_cons_zero, List.setIfInBounds_toArray, List.set_cons_zero, List.set_cons_succ]
  refine wpAnyH_take (i := 19) (v := undef) rfl (by kernel_rfl) (by kernel_rfl) (by kernel_rfl) (fun _ _ _ h => h) (Or.inr ⟨by kernel_rfl, rfl⟩) (by assumption) ?_
  try simp only [Act.put, List.getElem_toArray, List.getElem_cons_succ, List.getElem_cons_zero, List.setIfInBounds_toArray, List.set_cons_zero, List.set_cons_succ]
  refine wpAnyH_take (i := 20) (v := undef) rfl (by kernel_rfl) (by kernel_rfl) (by kernel_rfl) (fun _ _ _ h => h) (Or.inr ⟨by kernel_rfl, rfl⟩) (by assumption) ?_
  try simp only [Act.put, List.getElem_toArray, List.getElem_cons_succ, List.getElem_cons_zero, List.setIfInBounds_toArray, List.set_cons_zero, List.set_cons_succ]
  refine wpAnyH_take (i := 21) (v := undef) rfl (by kernel_rfl) (by kernel_rfl) (by kernel_rfl) (fun _ _ _ h => h) (Or.inr ⟨by kernel_rfl, rfl⟩) (by assumption) ?_
  try simp only [Act.put, List.getElem_toArray, List.getElem_cons_succ, List.getElem_cons_zero, List.setIfInBounds_toArray, List.set_cons_zero, List.set_cons_succ]
  refine wpAnyH_take (i := 22) (v := undef) rfl (by kernel_rfl) (by kernel_rfl) (by kernel_rfl) (fun _ _ _ h => h) (Or.inr ⟨by kernel_rfl, rfl⟩) (by assumption) ?_
  try simp only [Act.put, List.getElem_toArray, List.getElem_cons_succ, List.getElem_cons_zero, List.setIfInBounds_toArray, List.set_cons_zero, List.set_cons_succ]
  refine wpAnyH_take (i := 23) (v := ?_) rfl (by kernel_rfl) (by kernel_rfl) (by kernel_rfl) (fun _ _ _ h => h) (Or.inl ⟨by kernel_rfl, ?_⟩) (by assumption) ?_
  rotate_left 1
  · (intro w hSw; (try dsimp only at hSw); go_simp; all_goals with_reducible rfl)
  try simp only [Act.put, List.getElem_toArray, List.getElem_cons_succ, List.getElem_cons_zero, List.setIfInBounds_toArray, List.set_cons_zero, List.set_cons_succ]
  refine wpAnyH_take (i := 24) (v := ?_) rfl (by kernel_rfl) (by kernel_rfl) (by kernel_rfl) (fun _ _ _ h => h) (Or.inl ⟨by kernel_rfl, ?_⟩) (by assumption) ?_
  rotate_left 1
  · (intro w hSw; (try dsimp only at hSw); go_simp; all_goals with_reducible rfl)
  try simp only [Act.put, List.getElem_toArray, List.getElem_cons_succ, List.getElem_cons_zero, List.setIfInBounds_toArray, List.set_cons_zero, List.set_cons_succ]
  refine wpAnyH_done (by kernel_rfl) ?_ _
  have hJ5 := Lib.hid (hJ4.out.below hHeld2.2.2)
  have b0 := kept1 a0 hHeld2.2.2
  have b1 := kept1 a1 hHeld2.2.2
  have k0 := hJ5.out.c0
  have k1 := hJ5.out.c1
  clear S0 S1 hHeld hHeld2 hbp hJ4 a0 a1 e0 e1
  go_wp2_with fail
  refine (HRw.out _ hJ5.out).mono ?_
  rintro e w6 ⟨v, rfl, hown, hb⟩
  rw [List.length_append] at hown
  obtain ⟨p6, q6, rfl, hx9⟩ := owns_slice hown
  have hA : Below w6.heap.size w6 (w6.alloc (Obj.cells #[.int .i64 n, .slice p6 (L.length + L2.length) q6] 24)) := (Below.refl _ _).alloc (Nat.le_refl _) _
  have f0 := kept1 (kept1 b0 hb) hA
  have f1 := kept1 (kept1 b1 hb) hA
  have hB6 := Lib.hid ((hJ5.out.b.trans (hb.mono hJ5.out.b.size)).trans (hA.mono (Nat.le_trans hJ5.out.b.size hb.size)))
  clear hx9 hown hb hJ5 k0 k1 HRw hA b0 b1
  go_wp2_with fail
  generalize w6.alloc (Obj.cells #[.int .i64 n, .slice p6 (L.length + L2.length) q6] 24) = W6 at *
  generalize w6.heap.size = wb at *
  refine (HSa.out _).mono ?_
  rintro e w7 ⟨rfl, hb⟩
  have g0 := kept1 f0 hb
  have g1 := kept1 f1 hb
  have hB7 := Lib.hid (hB6.out.trans (hb.mono hB6.out.size))
  clear hb hB6 f0 f1
  go_wp2_with fail
  refine (HSn.out _).mono ?_
  rintro e w8 ⟨rfl, hb⟩
  have hB8 := Lib.hid (hB7.out.trans (hb.mono hB7.out.size))
  clear hb hB7 g0 g1
  go_wp2
  go_ret
  exact ⟨rfl, hB8.out⟩

-- changes_ok: the longer system is not
set_option linter.unusedSimpArgs false in
set_option maxRecDepth 100000 in
set_option maxHeartbeats 8000000 in
theorem changes_ok1 (n : Int) (a b d : Option Addr) (m cap p q c1 c2 : Nat) (L L2 : List Ch.Lk) (xs : List Int) (hm : Hid (L.length = m)) (hp : Hid (L2.length = p)) (hq : Hid (xs.length = q)) (hp9 : p ≤ 30) (hq9 : q ≤ 60) (hm9 : m ≤ 310) (hsm : Hid ((decide (m ≤ 310) && decide (n ≤ 70)) = true)) (ha : Hid (a = none → cap = 0)) (hb9 : Hid (b = none → c1 = 0)) (hck : (Ch.check n L).1 = 0) (er : Int) (her : (Ch.check n (L ++ L2)).1 = er) (hec : er ≠ 0) (w : World) (hL : Hid (LksAt w a L)) (hx : Hid (LksAt w b L2)) (hy : Hid (IntsAt w d xs)) :
    Calls Try.prog 5 #[sysV n a m cap, .slice b p c1, .slice d q c2] w (LawPost w) := by
  obtain ⟨Lo, hLo⟩ : ∃ Lo, Ch.wo L xs m = Lo := ⟨_, rfl⟩
  have hl9 : Lo.length ≤ m := hLo ▸ Ch.wo_len L xs m
  have HSm := Lib.hid fun (W : World) => small_any n a m cap true hsm W
  have HSa := Lib.hid fun (W : World) => sanity_any W
  have HSn := Lib.hid fun (W : World) => same_none W
  have HWi := Lib.hid fun (W : World) (h : CJ w n a b d m cap L L2 xs W) => with_any n a b m p cap c1 L L2 hm hp ha hb9 (by omega) W (Lib.hid h.l) (Lib.hid h.x)
  have HWt := Lib.hid fun (W : World) (h : CJ w n a b d m cap L L2 xs W) => withoutS_any n a d m q cap c2 L xs hm hq (by omega) W (Lib.hid h.l) (Lib.hid h.y)
  have HEr := Lib.hid fun (W : World) (h : CJ w n a b d m cap L L2 xs W) => rerror_any n a cap L W h.l
  have HRo := Lib.hid fun (W : World) (h : CJ w n a b d m cap L L2 xs W) => rwithout_any n a d m q cap c2 L xs hm hq (by omega) (by omega) W (Lib.hid h.l) (Lib.hid h.y)
  have HRw := Lib.hid fun (W : World) (h : CJ w n a b d m cap L L2 xs W) => rwith_any n a b m p cap c1 L L2 hm hp ha hb9 (by omega) (by omega) W (Lib.hid h.l) (Lib.hid h.x)
  have HSo := Lib.hid fun (W : World) (x x' : Option Addr) (y y' : Nat) (h : LksAt W x Lo) (h' : LksAt W x' Lo) => same_any n n x x' Lo.length Lo.length y y' Lo Lo (Lib.hid rfl) (Lib.hid rfl) (by omega) true (Lib.hid (by simp)) W (Lib.hid h) (Lib.hid h')
  have HEw := Lib.hid fun (W : World) (x : Option Addr) (y : Nat) (h : LksAt W x (L ++ L2)) => rerror_any n x y (L ++ L2) W h
  rw [Ch.withE_ok hck, her] at HWi
  rw [hck, hLo] at HWt
  rw [hck, hm.out] at HEr
  rw [hLo] at HRo
  rw [her, List.length_append] at HEw
  unfold sysV at *
  have hn1 : ¬ (30 : Int) < (p : Int) := by omega
  have hn2 : ¬ (60 : Int) < (q : Int) := by omega
  have hz1 : (er == 0) = false := by rw [beq_eq_false_iff_ne]; exact hec
  have hz2 : (er != 0) = true := by rw [bne_iff_ne]; exact hec
  have hz3 : (er == er) = true := by simp
  clear hck her hl9
  go_enter Try.func5, Try.ntmps5
  go_wp2_with fail
  refine (HSm.out _).mono ?_
  rintro e w1 ⟨rfl, hb⟩
  have hB1 := bstep1 (Below.refl _ _) hb
  have hJ := Lib.hid (CJ.mk (w := w) (n := n) (a := a) (m := m) (cap := cap) (W := w1) (kept1 (by simp [go_sem]) hb) (kept1 (by simp [go_sem]) hb) (hL.out.below hB1) (hx.out.below hB1) (hy.out.below hB1) hB1)
  clear hb hB1 HSm hsm hL hx hy
  have k0 := hJ.out.c0
  have k1 := hJ.out.c1
  go_wp2_with fail
  refine (HWi.out _ hJ.out).mono ?_
  rintro e w2 ⟨kk, v, rfl, hx1, hx2, hb⟩
  obtain ⟨rfl, rfl⟩ := hx1 hec
  have hA2 : Below w2.heap.size w2 (w2.alloc (Obj.cells #[.int .i64 0, .slice none 0 0] 24)) := (Below.refl _ _).alloc (Nat.le_refl _) _
  have hJ2 := Lib.hid ((hJ.out.below hb).below hA2)
  have a0 : (w2.alloc (Obj.cells #[.int .i64 0, .slice none 0 0] 24)).cell? ⟨w2.heap.size, 0, none⟩ = some (.int .i64 0) := by simp [go_sem]
  have a1 : (w2.alloc (Obj.cells #[.int .i64 0, .slice none 0 0] 24)).cell? ⟨w2.heap.size, 1, none⟩ = some (.slice none 0 0) := by simp [go_sem]
  clear hb hJ k0 k1 HWi hx1 hx2 hA2 w1
  have k0 := hJ2.out.c0
  have k1 := hJ2.out.c1
  go_wp2_with fail
  generalize w2.alloc (Obj.cells #[.int .i64 0, .slice none 0 0] 24) = W2 at *
  generalize w2.heap.size = ab at *
  refine (HWt.out _ hJ2.out).mono ?_
  rintro e w3 ⟨kk, v, rfl, hx1, hx2, hb⟩
  obtain ⟨hn9, hown⟩ := hx2 rfl
  subst kk
  obtain ⟨p3, q3, rfl, hK3⟩ := lks_of_owns hown
  clear hown hx1 hx2
  have hA : Below w3.heap.size w3 (w3.alloc (Obj.cells #[.int .i64 n, .slice p3 Lo.length q3] 24)) := (Below.refl _ _).alloc (Nat.le_refl _) _
  have hJ3 := Lib.hid ((hJ2.out.below hb).below hA)
  have b0 := kept1 (kept1 a0 hb) hA
  have b1 := kept1 (kept1 a1 hb) hA
  have hKo := Lib.hid (hK3.below hA)
  have d0 : (w3.alloc (Obj.cells #[.int .i64 n, .slice p3 Lo.length q3] 24)).cell? ⟨w3.heap.size, 0, none⟩ = some (.int .i64 n) := by simp [go_sem]
  have d1 : (w3.alloc (Obj.cells #[.int .i64 n, .slice p3 Lo.length q3] 24)).cell? ⟨w3.heap.size, 1, none⟩ = some (.slice p3 Lo.length q3) := by simp [go_sem]
  clear hb hJ2 k0 k1 HWt hA a0 a1 hK3 W2
  have k0 := hJ3.out.c0
  have k1 := hJ3.out.c1
  go_wp2_with fail
  generalize w3.alloc (Obj.cells #[.int .i64 n, .slice p3 Lo.length q3] 24) = W3 at *
  generalize w3.heap.size = bb at *
  refine (HEr.out _ hJ3.out).mono ?_
  rintro e w4 ⟨rfl, hb⟩
  have hJ4 := Lib.hid (hJ3.out.below hb)
  have a0 := kept1 b0 hb
  have a1 := kept1 b1 hb
  have e0 := kept1 d0 hb
  have e1 := kept1 d1 hb
  have hKp := Lib.hid (hKo.out.below hb)
  clear hb hJ3 k0 k1 HEr b0 b1 d0 d1 hKo W3
  have k0 := hJ4.out.c0
  have k1 := hJ4.out.c1
  go_upto_region 6 with fail
  have S0 : w4.drew.cell? ⟨bb, 0, none⟩ = some (.int .i64 n) ∧ w4.drew.cell? ⟨bb, 1, none⟩ = some (.slice p3 Lo.length q3) ∧ w4.drew.cell? ⟨w.heap.size, 0, none⟩ = some (.int .i64 n) ∧ w4.drew.cell? ⟨w.heap.size, 1, none⟩ = some (.slice a m cap) ∧ Below w4.heap.size w4 w4.drew := ⟨e0, e1, k0, k1, (Below.refl _ _).drew⟩
  clear k0 k1
  refine wp_region_held_drew (S := fun w' => w'.cell? ⟨bb, 0, none⟩ = some (.int .i64 n) ∧ w'.cell? ⟨bb, 1, none⟩ = some (.slice p3 Lo.length q3) ∧ w'.cell? ⟨w.heap.size, 0, none⟩ = some (.int .i64 n) ∧ w'.cell? ⟨w.heap.size, 1, none⟩ = some (.slice a m cap) ∧ Below w4.heap.size w4 w') (by kernel_rfl) S0 (fun hHeld => ?_)
  refine wpAnyH_take (i := 0) (v := ?_) rfl (by kernel_rfl) (by kernel_rfl) (by kernel_rfl) (fun _ _ _ h => h) (Or.inl ⟨by kernel_rfl, ?_⟩) (by assumption) ?_
  rotate_left 1
  · (intro w hSw; (try dsimp only at hSw); go_simp; all_goals with_reducible rfl)
  try simp only [Act.put, List.getElem_toArray, List.getElem_cons_succ, List.getElem_cons_zero, List.setIfInBounds_toArray, List.set_cons_zero, List.set_cons_succ]
  refine wpAnyH_take (i := 1) (v := ?_) rfl (by kernel_rfl) (by kernel_rfl) (by kernel_rfl) (fun _ _ _ h => h) (Or.inl ⟨by kernel_rfl, ?_⟩) (by assumption) ?_
  rotate_left 1
  · (intro w hSw; (try dsimp only at hSw); go_simp; all_goals with_reducible rfl)
  try simp only [Act.put, List.getElem_toArray, List.getElem_cons_succ, List.getElem_cons_zero, List.setIfInBounds_toArray, List.set_cons_zero, List.set_cons_succ]
  refine wpAnyH_take (i := 2) (v := ?_) rfl (by kernel_rfl) (by kernel_rfl) (by kernel_rfl) (fun _ _ _ h => h) (Or.inl ⟨by kernel_rfl, ?_⟩) (by assumption) ?_
  rotate_left 1
  · (intro w hSw; (try dsimp only at hSw); go_simp; all_goals with_reducible rfl)
  try simp only [Act.put, List.getElem_toArray, List.getElem_cons_succ, List.getElem_cons_zero, List.setIfInBounds_toArray, List.set_cons_zero, List.set_cons_succ]
  refine wpAnyH_take (i := 3) (v := ?_) rfl (by kernel_rfl) (by kernel_rfl) (by kernel_rfl) (fun _ _ _ h => h) (Or.inl ⟨by kernel_rfl, ?_⟩) (by assumption) ?_
  rotate_left 1
  · (intro w hSw; (try dsimp only at hSw); go_simp; all_goals with_reducible rfl)
  try simp only [Act.put, List.getElem_toArray, List.getElem_cons_succ, List.getElem_cons_zero, List.setIfInBounds_toArray, List.set_cons_zero, List.set_cons_succ]
  refine wpAnyH_take (i := 4) (v := ?_) rfl (by kernel_rfl) (by kernel_rfl) (by kernel_rfl) (fun _ _ _ h => h) (Or.inl ⟨by kernel_rfl, ?_⟩) (by assumption) ?_
  rotate_left 1
  · (intro w hSw; (try dsimp only at hSw); go_simp; all_goals with_reducible rfl)
  try simp only [Act.put, List.getElem_toArray, List.getElem_cons_succ, List.getElem_cons_zero, List.setIfInBounds_toArray, List.set_cons_zero, List.set_cons_succ]
  refine wpAnyH_take (i := 5) (v := ?_) rfl (by kernel_rfl) (by kernel_rfl) (by kernel_rfl) (fun _ _ _ h => h) (Or.inl ⟨by kernel_rfl, ?_⟩) (by assumption) ?_
  rotate_left 1
  · (intro w hSw; (try dsimp only at hSw); go_simp; all_goals with_reducible rfl)
  try simp only [Act.put, List.getElem_toArray, List.getElem_cons_succ, List.getElem_cons_zero, List.setIfInBounds_toArray, List.set_cons_zero, List.set_cons_succ]
  refine wpAnyH_take (i := 6) (v := ?_) rfl (by kernel_rfl) (by kernel_rfl) (by kernel_rfl) (fun _ _ _ h => h) (Or.inl ⟨by kernel_rfl, ?_⟩) (by assumption) ?_
  rotate_left 1
  · (intro w hSw; (try dsimp only at hSw); go_simp; all_goals with_reducible rfl)
  try simp only [Act.put, List.getElem_toArray, List.getElem_cons_succ, List.getElem_cons_zero, List.setIfInBounds_toArray, List.set_cons_zero, List.set_cons_succ]
  refine wpAnyH_take (i := 7) (v := undef) rfl (by kernel_rfl) (by kernel_rfl) (by kernel_rfl) (fun _ _ _ h => h) (Or.inr ⟨by kernel_rfl, rfl⟩) (by assumption) ?_
  try simp only [Act.put, List.getElem_toArray, List.getElem_cons_succ, List.getElem_cons_zero, List.setIfInBounds_toArray, List.set_cons_zero, List.set_cons_succ]
  refine wpAnyH_take (i := 8) (v := undef) rfl (by kernel_rfl) (by kernel_rfl) (by kernel_rfl) (fun _ _ _ h => h) (Or.inr ⟨by kernel_rfl, rfl⟩) (by assumption) ?_
  try simp only [Act.put, List.getElem_toArray, List.getElem_cons_succ, List.getElem_cons_zero, List.setIfInBounds_toArray, List.set_cons_zero, List.set_cons_succ]
  refine wpAnyH_take (i := 9) (v := undef) rfl (by kernel_rfl) (by kernel_rfl) (by kernel_rfl) (fun _ _ _ h => h) (Or.inr ⟨by kernel_rfl, rfl⟩) (by assumption) ?_
  try simp only [Act.put, List.getElem_toArray, List.getElem_cons_succ, List.getElem_cons_zero, List.setIfInBounds_toArray, List.set_cons_zero, List.set_cons_succ]
  refine wpAnyH_take (i := 10) (v := undef) rfl (by kernel_rfl) (by kernel_rfl) (by kernel_rfl) (fun _ _ _ h => h) (Or.inr ⟨by kernel_rfl, rfl⟩) (by assumption) ?_
  try simp only [Act.put, List.getElem_toArray, List.getElem_cons_succ, List.getElem_cons_zero, List.setIfInBounds_toArray, List.set_cons_zero, List.set_cons_succ]
  refine wpAnyH_take (i := 11) (v := ?_) rfl (by kernel_rfl) (by kernel_rfl) (by kernel_rfl) (fun _ _ _ h => h) (Or.inl ⟨by kernel_rfl, ?_⟩) (by assumption) ?_
  rotate_left 1
  · (intro w hSw; (try dsimp only at hSw); go_simp; all_goals with_reducible rfl)
  try simp only [Act.put, List.getElem_toArray, List.getElem_cons_succ, List.getElem_cons_zero, List.setIfInBounds_toArray, List.set_cons_zero, List.set_cons_succ]
  refine wpAnyH_take (i := 12) (v := ?_) rfl (by kernel_rfl) (by kernel_rfl) (by kernel_rfl) (fun _ _ _ h => h) (Or.inl ⟨by kernel_rfl, ?_⟩) (by assumption) ?_
  rotate_left 1
  · (intro w hSw; (try dsimp only at hSw); go_simp; all_goals with_reducible rfl)
  try simp only [Act.put, List.getElem_toArray, List.getElem_cons_succ, List.getElem_cons_zero, List.setIfInBounds_toArray, List.set_cons_zero, List.set_cons_succ]
  refine wpAnyH_take (i := 13) (v := ?_) rfl (by kernel_rfl) (by kernel_rfl) (by kernel_rfl) (fun _ _ _ h => h) (Or.inl ⟨by kernel_rfl, ?_⟩) (by assumption) ?_
  rotate_left 1
  · (intro w hSw; (try dsimp only at hSw); go_simp; all_goals with_reducible rfl)
  try simp only [Act.put, List.getElem_toArray, List.getElem_cons_succ, List.getElem_cons_zero, List.setIfInBounds_toArray, List.set_cons_zero, List.set_cons_succ]
  refine wpAnyH_take (i := 14) (v := ?_) rfl (by kernel_rfl) (by kernel_rfl) (by kernel_rfl) (fun _ _ _ h => h) (Or.inl ⟨by kernel_rfl, ?_⟩) (by assumption) ?_
  rotate_left 1
  · (intro w hSw; (try dsimp only at hSw); go_simp; all_goals with_reducible rfl)
  try simp only [Act.put, List.getElem_toArray, List.getElem_cons_succ, List.getElem_cons_zero, List.setIfInBounds_toArray, List.set_cons_zero, List.set_cons_succ]
  refine wpAnyH_take (i := 15) (v := ?_) rfl (by kernel_rfl) (by kernel_rfl) (by kernel_rfl) (fun _ _ _ h => h) (Or.inl ⟨by kernel_rfl, ?_⟩) (by assumption) ?_
  rotate_left 1
  · (intro w hSw; (try dsimp only at hSw); go_simp; all_goals with_reducible rfl)
  try simp only [Act.put, List.getElem_toArray, List.getElem_cons_succ, List.getElem_cons_zero, List.setIfInBounds_toArray, List.set_cons_zero, List.set_cons_succ]
  refine wpAnyH_take (i := 16) (v := ?_) rfl (by kernel_rfl) (by kernel_rfl) (by kernel_rfl) (fun _ _ _ h => h) (Or.inl ⟨by kernel_rfl, ?_⟩) (by assumption) ?_
  rotate_left 1
  · (intro w hSw; (try dsimp only at hSw); go_simp; all_goals with_reducible rfl)
  try simp only [Act.put, List.getElem_toArray, List.getElem_cons_succ, List.getElem_cons_zero, List.setIfInBounds_toArray, List.set_cons_zero, List.set_cons_succ]
  refine wpAnyH_take (i := 17) (v := ?_) rfl (by kernel_rfl) (by kernel_rfl) (by kernel_rfl) (fun _ _ _ h => h) (Or.inl ⟨by kernel_rfl, ?_⟩) (by assumption) ?_
  rotate_left 1
  · (intro w hSw; (try dsimp only at hSw); go_simp; all_goals with_reducible rfl)
  try simp only [Act.put, List.getElem_toArray, List.getElem_cons_succ, List.getElem_cons_zero, List.setIfInBounds_toArray, List.set_cons_zero, List.set_cons_succ]
  refine wpAnyH_take (i := 18) (v := ?_) rfl (by kernel_rfl) (by kernel_rfl) (by kernel_rfl) (fun _ _ _ h => h) (Or.inl ⟨by kernel_rfl, ?_⟩) (by assumption) ?_
  rotate_left 1
  · (intro w hSw; (try dsimp only at hSw); go_simp; all_goals with_reducible rfl)
  try simp only [Act.put, List.getElem_toArray, List.getElem_cons_succ, List.getElem_cons_zero, List.setIfInBounds_toArray, List.set_cons_zero, List.set_cons_succ]
  refine wpAnyH_take (i := 19) (v := ?_) rfl (by kernel_rfl) (by kernel_rfl) (by kernel_rfl) (fun _ _ _ h => h) (Or.inl ⟨by kernel_rfl, ?_⟩) (by assumption) ?_
  rotate_left 1
  · (intro w hSw; (try dsimp only at hSw); go_simp; all_goals with_reducible rfl)
  try simp only [Act.put, List.getElem_toArray, List.getElem_cons_succ, List.getElem_cons_zero, List.setIfInBounds_toArray, List.set_cons_zero, List.set_cons_succ]
  refine wpAnyH_ready (rs := [20]) (by kernel_rfl) (by simp) ?_
  refine AllReadyH.cons rfl (fun K hK => ?_) ?_
  rotate_left 1
  · exact AllReadyH.nil
  rw [if_pos (by kernel_rfl)]
  go_simp
  with_reducible refine (HRo.out _ (hJ4.out.below hHeld.2.2.2.2)).mono ?_
  rintro e wp1 ⟨v, rfl, hown, hbp⟩
  obtain ⟨p5, q5, rfl, hK5⟩ := lks_of_owns hown
  have S1 : wp1.cell? ⟨bb, 0, none⟩ = some (.int .i64 n) ∧ wp1.cell? ⟨bb, 1, none⟩ = some (.slice p3 Lo.length q3) ∧ wp1.cell? ⟨w.heap.size, 0, none⟩ = some (.int .i64 n) ∧ wp1.cell? ⟨w.heap.size, 1, none⟩ = some (.slice a m cap) ∧ Below w4.heap.size w4 wp1 := keep4 hHeld hbp
  clear hown
  refine hK.out _ _ S1 (fun hHeld2 => ?_)
  clear hK K
  try simp only [Act.put, List.setIfInBounds_toArray, List.set_cons_zero, List.set_cons_succ]
  refine wpAnyH_ready (rs := [21]) (by kernel_rfl) (by simp) ?_
  refine AllReadyH.cons rfl (fun K hK => ?_) ?_
  rotate_left 1
  · exact AllReadyH.nil
  rw [if_pos (by kernel_rfl)]
  go_simp
  with_reducible refine (HSo.out _ _ _ _ _ (hKp.out.below hHeld2.2.2.2.2) hK5).mono ?_
  rintro e wp2 ⟨rfl, hbq⟩
  have S2 : wp2.cell? ⟨bb, 0, none⟩ = some (.int .i64 n) ∧ wp2.cell? ⟨bb, 1, none⟩ = some (.slice p3 Lo.length q3) ∧ wp2.cell? ⟨w.heap.size, 0, none⟩ = some (.int .i64 n) ∧ wp2.cell? ⟨w.heap.size, 1, none⟩ = some (.slice a m cap) ∧ Below w4.heap.size w4 wp2 := keep4 hHeld2 hbq
  refine hK.out _ _ S2 (fun hHeld3 => ?_)
  clear hK K
  try simp only [Act.put, List.setIfInBounds_toArray, List.set_cons_zero, List.set_cons_succ]
  refine wpAnyH_take (i := 22) (v := ?_) rfl (by kernel_rfl) (by kernel_rfl) (by kernel_rfl) (fun _ _ _ h => h) (Or.inl ⟨by kernel_rfl, ?_⟩) (by assumption) ?_
  rotate_left 1
  · (intro w hSw; (try dsimp only at hSw); go_simp; all_goals with_reducible rfl)
  try simp only [Act.put, List.getElem_toArray, List.getElem_cons_succ, List.getElem_cons_zero, List.setIfInBounds_toArray, List.set_cons_zero, List.set_cons_succ]
  refine wpAnyH_take (i := 23) (v := ?_) rfl (by kernel_rfl) (by kernel_rfl) (by kernel_rfl) (fun _ _ _ h => h) (Or.inl ⟨by kernel_rfl, ?_⟩) (by assumption) ?_
  rotate_left 1
  · (intro w hSw; (try dsimp only at hSw); go_simp; all_goals with_reducible rfl)
  try simp only [Act.put, List.getElem_toArray, List.getElem_cons_succ, List.getElem_cons_zero, List.setIfInBounds_toArray, List.set_cons_zero, List.set_cons_succ]
  refine wpAnyH_take (i := 24) (v := ?_) rfl (by kernel_rfl) (by kernel_rfl) (by kernel_rfl) (fun _ _ _ h => h) (Or.inl ⟨by kernel_rfl, ?_⟩) (by assumption) ?_
  rotate_left 1
  · (intro w hSw; (try dsimp only at hSw); go_simp; all_goals with_reducible rfl)
  try simp only [Act.put, List.getElem_toArray, List.getElem_cons_succ, List.getElem_cons_zero, List.setIfInBounds_toArray, List.set_cons_zero, List.set_cons_succ]
  refine wpAnyH_done (by kernel_rfl) ?_ _
  have hbw : Below w4.heap.size w4 wp2 := hHeld3.2.2.2.2
  have hJ5 := Lib.hid (hJ4.out.below hbw)
  have b0 := kept1 a0 hbw
  have b1 := kept1 a1 hbw
  have k0 := hJ5.out.c0
  have k1 := hJ5.out.c1
  clear S0 S1 S2 hHeld hHeld2 hHeld3 hbp hbq hJ4 a0 a1 e0 e1 hbw hKp hK5 HRo HSo wp1
  go_wp2_with fail
  refine (HRw.out _ hJ5.out).mono ?_
  rintro e w6 ⟨v, rfl, hown, hb⟩
  obtain ⟨p6, q6, hv6, hK6⟩ := lks_of_owns hown
  rw [List.length_append] at hv6
  subst hv6
  have hA : Below w6.heap.size w6 (w6.alloc (Obj.cells #[.int .i64 n, .slice p6 (L.length + L2.length) q6] 24)) := (Below.refl _ _).alloc (Nat.le_refl _) _
  have f0 := kept1 (kept1 b0 hb) hA
  have f1 := kept1 (kept1 b1 hb) hA
  have hB6 := Lib.hid ((hJ5.out.b.trans (hb.mono hJ5.out.b.size)).trans (hA.mono (Nat.le_trans hJ5.out.b.size hb.size)))
  have hK7 := Lib.hid (hK6.below hA)
  have g0 : (w6.alloc (Obj.cells #[.int .i64 n, .slice p6 (L.length + L2.length) q6] 24)).cell? ⟨w6.heap.size, 0, none⟩ = some (.int .i64 n) := by simp [go_sem]
  have g1 : (w6.alloc (Obj.cells #[.int .i64 n, .slice p6 (L.length + L2.length) q6] 24)).cell? ⟨w6.heap.size, 1, none⟩ = some (.slice p6 (L.length + L2.length) q6) := by simp [go_sem]
  clear hown hb hJ5 k0 k1 HRw hA b0 b1 hK6
  go_wp2_with fail
  generalize w6.alloc (Obj.cells #[.int .i64 n, .slice p6 (L.length + L2.length) q6] 24) = W6 at *
  generalize w6.heap.size = wb at *
  refine (HEw.out _ _ _ hK7.out).mono ?_
  rintro e w7 ⟨rfl, hb⟩
  have h0 := kept1 f0 hb
  have h1 := kept1 f1 hb
  have i0 := kept1 g0 hb
  have i1 := kept1 g1 hb
  have hB7 := Lib.hid (hB6.out.trans (hb.mono hB6.out.size))
  have hK8 := Lib.hid (hK7.out.below hb)
  clear hb hB6 f0 f1 g0 g1 hK7 HEw
  go_wp2_with fail
  refine (HSa.out _).mono ?_
  rintro e w8 ⟨rfl, hb⟩
  have j0 := kept1 h0 hb
  have j1 := kept1 h1 hb
  have l0 := kept1 i0 hb
  have l1 := kept1 i1 hb
  have hB8 := Lib.hid (hB7.out.trans (hb.mono hB7.out.size))
  have hK9 := Lib.hid (hK8.out.below hb)
  clear hb hB7 h0 h1 i0 i1 hK8
  go_wp2_with fail
  refine (HSn.out _).mono ?_
  rintro e w9 ⟨rfl, hb⟩
  have hB9 := Lib.hid (hB8.out.trans (hb.mono hB8.out.size))
  clear hb hB8 j0 j1 l0 l1
  go_wp2
  go_ret
  exact ⟨rfl, hB9.out⟩

-- changes_ok: the longer system is consistent in form
set_option linter.unusedSimpArgs false in
set_option maxRecDepth 100000 in
set_option maxHeartbeats 8000000 in
theorem changes_ok2 (n : Int) (a b d : Option Addr) (m cap p q c1 c2 : Nat) (L L2 : List Ch.Lk) (xs : List Int) (hm : Hid (L.length = m)) (hp : Hid (L2.length = p)) (hq : Hid (xs.length = q)) (hp9 : p ≤ 30) (hq9 : q ≤ 60) (hm9 : m ≤ 310) (hsm : Hid ((decide (m ≤ 310) && decide (n ≤ 70)) = true)) (ha : Hid (a = none → cap = 0)) (hb9 : Hid (b = none → c1 = 0)) (hck : (Ch.check n L).1 = 0) (er : Int) (her : (Ch.check n (L ++ L2)).1 = er) (hec : er = 0) (w : World) (hL : Hid (LksAt w a L)) (hx : Hid (LksAt w b L2)) (hy : Hid (IntsAt w d xs)) :
    Calls Try.prog 5 #[sysV n a m cap, .slice b p c1, .slice d q c2] w (LawPost w) := by
  subst hec
  obtain ⟨Lo, hLo⟩ : ∃ Lo, Ch.wo L xs m = Lo := ⟨_, rfl⟩
  have hl9 : Lo.length ≤ m := hLo ▸ Ch.wo_len L xs m
  have HSm := Lib.hid fun (W : World) => small_any n a m cap true hsm W
  have HSa := Lib.hid fun (W : World) => sanity_any W
  have HSn := Lib.hid fun (W : World) => same_none W
  have HWi := Lib.hid fun (W : World) (h : CJ w n a b d m cap L L2 xs W) => with_any n a b m p cap c1 L L2 hm hp ha hb9 (by omega) W (Lib.hid h.l) (Lib.hid h.x)
  have HWt := Lib.hid fun (W : World) (h : CJ w n a b d m cap L L2 xs W) => withoutS_any n a d m q cap c2 L xs hm hq (by omega) W (Lib.hid h.l) (Lib.hid h.y)
  have HEr := Lib.hid fun (W : World) (h : CJ w n a b d m cap L L2 xs W) => rerror_any n a cap L W h.l
  have HRo := Lib.hid fun (W : World) (h : CJ w n a b d m cap L L2 xs W) => rwithout_any n a d m q cap c2 L xs hm hq (by omega) (by omega) W (Lib.hid h.l) (Lib.hid h.y)
  have HRw := Lib.hid fun (W : World) (h : CJ w n a b d m cap L L2 xs W) => rwith_any n a b m p cap c1 L L2 hm hp ha hb9 (by omega) (by omega) W (Lib.hid h.l) (Lib.hid h.x)
  have HSo := Lib.hid fun (W : World) (x x' : Option Addr) (y y' : Nat) (h : LksAt W x Lo) (h' : LksAt W x' Lo) => same_any n n x x' Lo.length Lo.length y y' Lo Lo (Lib.hid rfl) (Lib.hid rfl) (by omega) true (Lib.hid (by simp)) W (Lib.hid h) (Lib.hid h')
  have HEw := Lib.hid fun (W : World) (x : Option Addr) (y : Nat) (h : LksAt W x (L ++ L2)) => rerror_any n x y (L ++ L2) W h
  have HSw := Lib.hid fun (W : World) (x x' : Option Addr) (y y' : Nat) (h : LksAt W x (L ++ L2)) (h' : LksAt W x' (L ++ L2)) => same_any n n x x' (L.length + L2.length) (L.length + L2.length) y y' (L ++ L2) (L ++ L2) (Lib.hid (by simp)) (Lib.hid (by simp)) (by have := hm.out; have := hp.out; omega) true (Lib.hid (by simp)) W (Lib.hid h) (Lib.hid h')
  rw [Ch.withE_ok hck, her] at HWi
  rw [hck, hLo] at HWt
  rw [hck, hm.out] at HEr
  rw [hLo] at HRo
  rw [her, List.length_append] at HEw
  unfold sysV at *
  have hn1 : ¬ (30 : Int) < (p : Int) := by omega
  have hn2 : ¬ (60 : Int) < (q : Int) := by omega
  clear hck her hl9
  go_enter Try.func5, Try.ntmps5
  go_wp2_with fail
  refine (HSm.out _).mono ?_
  rintro e w1 ⟨rfl, hb⟩
  have hB1 := bstep1 (Below.refl _ _) hb
  have hJ := Lib.hid (CJ.mk (w := w) (n := n) (a := a) (m := m) (cap := cap) (W := w1) (kept1 (by simp [go_sem]) hb) (kept1 (by simp [go_sem]) hb) (hL.out.below hB1) (hx.out.below hB1) (hy.out.below hB1) hB1)
  clear hb hB1 HSm hsm hL hx hy
  have k0 := hJ.out.c0
  have k1 := hJ.out.c1
  go_wp2_with fail
  refine (HWi.out _ hJ.out).mono ?_
  rintro e w2 ⟨kk, v, rfl, hx1, hx2, hb⟩
  obtain ⟨hn9, hown⟩ := hx2 rfl
  subst kk
  rw [← List.length_append] at hown
  obtain ⟨p2, q2, hv2, hK2⟩ := lks_of_owns hown
  rw [List.length_append] at hv2
  subst hv2
  clear hown
  have hA2 : Below w2.heap.size w2 (w2.alloc (Obj.cells #[.int .i64 n, .slice p2 (L.length + L2.length) q2] 24)) := (Below.refl _ _).alloc (Nat.le_refl _) _
  have hJ2 := Lib.hid ((hJ.out.below hb).below hA2)
  have a0 : (w2.alloc (Obj.cells #[.int .i64 n, .slice p2 (L.length + L2.length) q2] 24)).cell? ⟨w2.heap.size, 0, none⟩ = some (.int .i64 n) := by simp [go_sem]
  have a1 : (w2.alloc (Obj.cells #[.int .i64 n, .slice p2 (L.length + L2.length) q2] 24)).cell? ⟨w2.heap.size, 1, none⟩ = some (.slice p2 (L.length + L2.length) q2) := by simp [go_sem]
  have hK := Lib.hid (hK2.below hA2)
  clear hK2
  clear hb hJ k0 k1 HWi hx1 hx2 hA2 w1
  have k0 := hJ2.out.c0
  have k1 := hJ2.out.c1
  go_wp2_with fail
  generalize w2.alloc (Obj.cells #[.int .i64 n, .slice p2 (L.length + L2.length) q2] 24) = W2 at *
  generalize w2.heap.size = ab at *
  refine (HWt.out _ hJ2.out).mono ?_
  rintro e w3 ⟨kk, v, rfl, hx1, hx2, hb⟩
  obtain ⟨hn9, hown⟩ := hx2 rfl
  subst kk
  obtain ⟨p3, q3, rfl, hK3⟩ := lks_of_owns hown
  clear hown hx1 hx2
  have hA : Below w3.heap.size w3 (w3.alloc (Obj.cells #[.int .i64 n, .slice p3 Lo.length q3] 24)) := (Below.refl _ _).alloc (Nat.le_refl _) _
  have hJ3 := Lib.hid ((hJ2.out.below hb).below hA)
  have b0 := kept1 (kept1 a0 hb) hA
  have b1 := kept1 (kept1 a1 hb) hA
  have hKo := Lib.hid (hK3.below hA)
  have hKa := Lib.hid ((hK.out.below hb).below hA)
  clear hK
  have d0 : (w3.alloc (Obj.cells #[.int .i64 n, .slice p3 Lo.length q3] 24)).cell? ⟨w3.heap.size, 0, none⟩ = some (.int .i64 n) := by simp [go_sem]
  have d1 : (w3.alloc (Obj.cells #[.int .i64 n, .slice p3 Lo.length q3] 24)).cell? ⟨w3.heap.size, 1, none⟩ = some (.slice p3 Lo.length q3) := by simp [go_sem]
  clear hb hJ2 k0 k1 HWt hA a0 a1 hK3 W2
  have k0 := hJ3.out.c0
  have k1 := hJ3.out.c1
  go_wp2_with fail
  generalize w3.alloc (Obj.cells #[.int .i64 n, .slice p3 Lo.length q3] 24) = W3 at *
  generalize w3.heap.size = bb at *
  refine (HEr.out _ hJ3.out).mono ?_
  rintro e w4 ⟨rfl, hb⟩
  have hJ4 := Lib.hid (hJ3.out.below hb)
  have a0 := kept1 b0 hb
  have a1 := kept1 b1 hb
  have e0 := kept1 d0 hb
  have e1 := kept1 d1 hb
  have hKp := Lib.hid (hKo.out.below hb)
  have hKb := Lib.hid (hKa.out.below hb)
  clear hKa
  clear hb hJ3 k0 k1 HEr b0 b1 d0 d1 hKo W3
  have k0 := hJ4.out.c0
  have k1 := hJ4.out.c1
  go_upto_region 6 with fail
  have S0 : w4.drew.cell? ⟨bb, 0, none⟩ = some (.int .i64 n) ∧ w4.drew.cell? ⟨bb, 1, none⟩ = some (.slice p3 Lo.length q3) ∧ w4.drew.cell? ⟨w.heap.size, 0, none⟩ = some (.int .i64 n) ∧ w4.drew.cell? ⟨w.heap.size, 1, none⟩ = some (.slice a m cap) ∧ Below w4.heap.size w4 w4.drew := ⟨e0, e1, k0, k1, (Below.refl _ _).drew⟩
  clear k0 k1
  refine wp_region_held_drew (S := fun w' => w'.cell? ⟨bb, 0, none⟩ = some (.int .i64 n) ∧ w'.cell? ⟨bb, 1, none⟩ = some (.slice p3 Lo.length q3) ∧ w'.cell? ⟨w.heap.size, 0, none⟩ = some (.int .i64 n) ∧ w'.cell? ⟨w.heap.size, 1, none⟩ = some (.slice a m cap) ∧ Below w4.heap.size w4 w') (by kernel_rfl) S0 (fun hHeld => ?_)
  refine wpAnyH_take (i := 0) (v := ?_) rfl (by kernel_rfl) (by kernel_rfl) (by kernel_rfl) (fun _ _ _ h => h) (Or.inl ⟨by kernel_rfl, ?_⟩) (by assumption) ?_
  rotate_left 1
  · (intro w hSw; (try dsimp only at hSw); go_simp; all_goals with_reducible rfl)
  try simp only [Act.put, List.getElem_toArray, List.getElem_cons_succ, List.getElem_cons_zero, List.setIfInBounds_toArray, List.set_cons_zero, List.set_cons_succ]
  refine wpAnyH_take (i := 1) (v := ?_) rfl (by kernel_rfl) (by kernel_rfl) (by kernel_rfl) (fun _ _ _ h => h) (Or.inl ⟨by kernel_rfl, ?_⟩) (by assumption) ?_
  rotate_left 1
  · (intro w hSw; (try dsimp only at hSw); go_simp; all_goals with_reducible rfl)
  try simp only [Act.put, List.getElem_toArray, List.getElem_cons_succ, List.getElem_cons_zero, List.setIfInBounds_toArray, List.set_cons_zero, List.set_cons_succ]
  refine wpAnyH_take (i := 2) (v := ?_) rfl (by kernel_rfl) (by kernel_rfl) (by kernel_rfl) (fun _ _ _ h => h) (Or.inl ⟨by kernel_rfl, ?_⟩) (by assumption) ?_
  rotate_left 1
  · (intro w hSw; (try dsimp only at hSw); go_simp; all_goals with_reducible rfl)
  try simp only [Act.put, List.getElem_toArray, List.getElem_cons_succ, List.getElem_cons_zero, List.setIfInBounds_toArray, List.set_cons_zero, List.set_cons_succ]
  refine wpAnyH_take (i := 3) (v := ?_) rfl (by kernel_rfl) (by kernel_rfl) (by kernel_rfl) (fun _ _ _ h => h) (Or.inl ⟨by kernel_rfl, ?_⟩) (by assumption) ?_
  rotate_left 1
  · (intro w hSw; (try dsimp only at hSw); go_simp; all_goals with_reducible rfl)
  try simp only [Act.put, List.getElem_toArray, List.getElem_cons_succ, List.getElem_cons_zero, List.setIfInBounds_toArray, List.set_cons_zero, List.set_cons_succ]
  refine wpAnyH_take (i := 4) (v := ?_) rfl (by kernel_rfl) (by kernel_rfl) (by kernel_rfl) (fun _ _ _ h => h) (Or.inl ⟨by kernel_rfl, ?_⟩) (by assumption) ?_
  rotate_left 1
  · (intro w hSw; (try dsimp only at hSw); go_simp; all_goals with_reducible rfl)
  try simp only [Act.put, List.getElem_toArray, List.getElem_cons_succ, List.getElem_cons_zero, List.setIfInBounds_toArray, List.set_cons_zero, List.set_cons_succ]
  refine wpAnyH_take (i := 5) (v := ?_) rfl (by kernel_rfl) (by kernel_rfl) (by kernel_rfl) (fun _ _ _ h => h) (Or.inl ⟨by kernel_rfl, ?_⟩) (by assumption) ?_
  rotate_left 1
  · (intro w hSw; (try dsimp only at hSw); go_simp; all_goals with_reducible rfl)
  try simp only [Act.put, List.getElem_toArray, List.getElem_cons_succ, List.getElem_cons_zero, List.setIfInBounds_toArray, List.set_cons_zero, List.set_cons_succ]
  refine wpAnyH_take (i := 6) (v := ?_) rfl (by kernel_rfl) (by kernel_rfl) (by kernel_rfl) (fun _ _ _ h => h) (Or.inl ⟨by kernel_rfl, ?_⟩) (by assumption) ?_
  rotate_left 1
  · (intro w hSw; (try dsimp only at hSw); go_simp; all_goals with_reducible rfl)
  try simp only [Act.put, List.getElem_toArray, List.getElem_cons_succ, List.getElem_cons_zero, List.setIfInBounds_toArray, List.set_cons_zero, List.set_cons_succ]
  refine wpAnyH_take (i := 7) (v := undef) rfl (by kernel_rfl) (by kernel_rfl) (by kernel_rfl) (fun _ _ _ h => h) (Or.inr ⟨by kernel_rfl, rfl⟩) (by assumption) ?_
  try simp only [Act.put, List.getElem_toArray, List.getElem_cons_succ, List.getElem_cons_zero, List.setIfInBounds_toArray, List.set_cons_zero, List.set_cons_succ]
  refine wpAnyH_take (i := 8) (v := undef) rfl (by kernel_rfl) (by kernel_rfl) (by kernel_rfl) (fun _ _ _ h => h) (Or.inr ⟨by kernel_rfl, rfl⟩) (by assumption) ?_
  try simp only [Act.put, List.getElem_toArray, List.getElem_cons_succ, List.getElem_cons_zero, List.setIfInBounds_toArray, List.set_cons_zero, List.set_cons_succ]
  refine wpAnyH_take (i := 9) (v := undef) rfl (by kernel_rfl) (by kernel_rfl) (by kernel_rfl) (fun _ _ _ h => h) (Or.inr ⟨by kernel_rfl, rfl⟩) (by assumption) ?_
  try simp only [Act.put, List.getElem_toArray, List.getElem_cons_succ, List.getElem_cons_zero, List.setIfInBounds_toArray, List.set_cons_zero, List.set_cons_succ]
  refine wpAnyH_take (i := 10) (v := undef) rfl (by kernel_rfl) (by kernel_rfl) (by kernel_rfl) (fun _ _ _ h => h) (Or.inr ⟨by kernel_rfl, rfl⟩) (by assumption) ?_
  try simp only [Act.put, List.getElem_toArray, List.getElem_cons_succ, List.getElem_cons_zero, List.setIfInBounds_toArray, List.set_cons_zero, List.set_cons_succ]
  refine wpAnyH_take (i := 11) (v := ?_) rfl (by kernel_rfl) (by kernel_rfl) (by kernel_rfl) (fun _ _ _ h => h) (Or.inl ⟨by kernel_rfl, ?_⟩) (by assumption) ?_
  rotate_left 1
  · (intro w hSw; (try dsimp only at hSw); go_simp; all_goals with_reducible rfl)
  try simp only [Act.put, List.getElem_toArray, List.getElem_cons_succ, List.getElem_cons_zero, List.setIfInBounds_toArray, List.set_cons_zero, List.set_cons_succ]
  refine wpAnyH_take (i := 12) (v := ?_) rfl (by kernel_rfl) (by kernel_rfl) (by kernel_rfl) (fun _ _ _ h => h) (Or.inl ⟨by kernel_rfl, ?_⟩) (by assumption) ?_
  rotate_left 1
  · (intro w hSw; (try dsimp only at hSw); go_simp; all_goals with_reducible rfl)
  try simp only [Act.put, List.getElem_toArray, List.getElem_cons_succ, List.getElem_cons_zero, List.setIfInBounds_toArray, List.set_cons_zero, List.set_cons_succ]
  refine wpAnyH_take (i := 13) (v := ?_) rfl (by kernel_rfl) (by kernel_rfl) (by kernel_rfl) (fun _ _ _ h => h) (Or.inl ⟨by kernel_rfl, ?_⟩) (by assumption) ?_
  rotate_left 1
  · (intro w hSw; (try dsimp only at hSw); go_simp; all_goals with_reducible rfl)
  try simp only [Act.put, List.getElem_toArray, List.getElem_cons_succ, List.getElem_cons_zero, List.setIfInBounds_toArray, List.set_cons_zero, List.set_cons_succ]
  refine wpAnyH_take (i := 14) (v := ?_) rfl (by kernel_rfl) (by kernel_rfl) (by kernel_rfl) (fun _ _ _ h => h) (Or.inl ⟨by kernel_rfl, ?_⟩) (by assumption) ?_
  rotate_left 1
  · (intro w hSw; (try dsimp only at hSw); go_simp; all_goals with_reducible rfl)
  try simp only [Act.put, List.getElem_toArray, List.getElem_cons_succ, List.getElem_cons_zero, List.setIfInBounds_toArray, List.set_cons_zero, List.set_cons_succ]
  refine wpAnyH_take (i := 15) (v := ?_) rfl (by kernel_rfl) (by kernel_rfl) (by kernel_rfl) (fun _ _ _ h => h) (Or.inl ⟨by kernel_rfl, ?_⟩) (by assumption) ?_
  rotate_left 1
  · (intro w hSw; (try dsimp only at hSw); go_simp; all_goals with_reducible rfl)
  try simp only [Act.put, List.getElem_toArray, List.getElem_cons_succ, List.getElem_cons_zero, List.setIfInBounds_toArray, List.set_cons_zero, List.set_cons_succ]
  refine wpAnyH_take (i := 16) (v := ?_) rfl (by kernel_rfl) (by kernel_rfl) (by kernel_rfl) (fun _ _ _ h => h) (Or.inl ⟨by kernel_rfl, ?_⟩) (by assumption) ?_
  rotate_left 1
  · (intro w hSw; (try dsimp only at hSw); go_simp; all_goals with_reducible rfl)
  try simp only [Act.put, List.getElem_toArray, List.getElem_cons_succ, List.getElem_cons_zero, List.setIfInBounds_toArray, List.set_cons_zero, List.set_cons_succ]
  refine wpAnyH_take (i := 17) (v := ?_) rfl (by kernel_rfl) (by kernel_rfl) (by kernel_rfl) (fun _ _ _ h => h) (Or.inl ⟨by kernel_rfl, ?_⟩) (by assumption) ?_
  rotate_left 1
  · (intro w hSw; (try dsimp only at hSw); go_simp; all_goals with_reducible rfl)
  try simp only [Act.put, List.getElem_toArray, List.getElem_cons_succ, List.getElem_cons_zero, List.setIfInBounds_toArray, List.set_cons_zero, List.set_cons_succ]
  refine wpAnyH_take (i := 18) (v := ?_) rfl (by kernel_rfl) (by kernel_rfl) (by kernel_rfl) (fun _ _ _ h => h) (Or.inl ⟨by kernel_rfl, ?_⟩) (by assumption) ?_
  rotate_left 1
  · (intro w hSw; (try dsimp only at hSw); go_simp; all_goals with_reducible rfl)
  try simp only [Act.put, List.getElem_toArray, List.getElem_cons_succ, List.getElem_cons_zero, List.setIfInBounds_toArray, List.set_cons_zero, List.set_cons_succ]
  refine wpAnyH_take (i := 19) (v := ?_) rfl (by kernel_rfl) (by kernel_rfl) (by kernel_rfl) (fun _ _ _ h => h) (Or.inl ⟨by kernel_rfl, ?_⟩) (by assumption) ?_
  rotate_left 1
  · (intro w hSw; (try dsimp only at hSw); go_simp; all_goals with_reducible rfl)
  try simp only [Act.put, List.getElem_toArray, List.getElem_cons_succ, List.getElem_cons_zero, List.setIfInBounds_toArray, List.set_cons_zero, List.set_cons_succ]
  refine wpAnyH_ready (rs := [20]) (by kernel_rfl) (by simp) ?_
  refine AllReadyH.cons rfl (fun K hK => ?_) ?_
  rotate_left 1
  · exact AllReadyH.nil
  rw [if_pos (by kernel_rfl)]
  go_simp
  with_reducible refine (HRo.out _ (hJ4.out.below hHeld.2.2.2.2)).mono ?_
  rintro e wp1 ⟨v, rfl, hown, hbp⟩
  obtain ⟨p5, q5, rfl, hK5⟩ := lks_of_owns hown
  have S1 : wp1.cell? ⟨bb, 0, none⟩ = some (.int .i64 n) ∧ wp1.cell? ⟨bb, 1, none⟩ = some (.slice p3 Lo.length q3) ∧ wp1.cell? ⟨w.heap.size, 0, none⟩ = some (.int .i64 n) ∧ wp1.cell? ⟨w.heap.size, 1, none⟩ = some (.slice a m cap) ∧ Below w4.heap.size w4 wp1 := keep4 hHeld hbp
  clear hown
  refine hK.out _ _ S1 (fun hHeld2 => ?_)
  clear hK K
  try simp only [Act.put, List.setIfInBounds_toArray, List.set_cons_zero, List.set_cons_succ]
  refine wpAnyH_ready (rs := [21]) (by kernel_rfl) (by simp) ?_
  refine AllReadyH.cons rfl (fun K hK => ?_) ?_
  rotate_left 1
  · exact AllReadyH.nil
  rw [if_pos (by kernel_rfl)]
  go_simp
  with_reducible refine (HSo.out _ _ _ _ _ (hKp.out.below hHeld2.2.2.2.2) hK5).mono ?_
  rintro e wp2 ⟨rfl, hbq⟩
  have S2 : wp2.cell? ⟨bb, 0, none⟩ = some (.int .i64 n) ∧ wp2.cell? ⟨bb, 1, none⟩ = some (.slice p3 Lo.length q3) ∧ wp2.cell? ⟨w.heap.size, 0, none⟩ = some (.int .i64 n) ∧ wp2.cell? ⟨w.heap.size, 1, none⟩ = some (.slice a m cap) ∧ Below w4.heap.size w4 wp2 := keep4 hHeld2 hbq
  refine hK.out _ _ S2 (fun hHeld3 => ?_)
  clear hK K
  try simp only [Act.put, List.setIfInBounds_toArray, List.set_cons_zero, List.set_cons_succ]
  refine wpAnyH_take (i := 22) (v := ?_) rfl (by kernel_rfl) (by kernel_rfl) (by kernel_rfl) (fun _ _ _ h => h) (Or.inl ⟨by kernel_rfl, ?_⟩) (by assumption) ?_
  rotate_left 1
  · (intro w hSw; (try dsimp only at hSw); go_simp; all_goals with_reducible rfl)
  try simp only [Act.put, List.getElem_toArray, List.getElem_cons_succ, List.getElem_cons_zero, List.setIfInBounds_toArray, List.set_cons_zero, List.set_cons_succ]
  refine wpAnyH_take (i := 23) (v := ?_) rfl (by kernel_rfl) (by kernel_rfl) (by kernel_rfl) (fun _ _ _ h => h) (Or.inl ⟨by kernel_rfl, ?_⟩) (by assumption) ?_
  rotate_left 1
  · (intro w hSw; (try dsimp only at hSw); go_simp; all_goals with_reducible rfl)
  try simp only [Act.put, List.getElem_toArray, List.getElem_cons_succ, List.getElem_cons_zero, List.setIfInBounds_toArray, List.set_cons_zero, List.set_cons_succ]
  refine wpAnyH_take (i := 24) (v := ?_) rfl (by kernel_rfl) (by kernel_rfl) (by kernel_rfl) (fun _ _ _ h => h) (Or.inl ⟨by kernel_rfl, ?_⟩) (by assumption) ?_
  rotate_left 1
  · (intro w hSw; (try dsimp only at hSw); go_simp; all_goals with_reducible rfl)
  try simp only [Act.put, List.getElem_toArray, List.getElem_cons_succ, List.getElem_cons_zero, List.setIfInBounds_toArray, List.set_cons_zero, List.set_cons_succ]
  refine wpAnyH_done (by kernel_rfl) ?_ _
  have hbw : Below w4.heap.size w4 wp2 := hHeld3.2.2.2.2
  have hJ5 := Lib.hid (hJ4.out.below hbw)
  have b0 := kept1 a0 hbw
  have b1 := kept1 a1 hbw
  have hKc := Lib.hid (hKb.out.below hbw)
  clear hKb
  have k0 := hJ5.out.c0
  have k1 := hJ5.out.c1
  clear S0 S1 S2 hHeld hHeld2 hHeld3 hbp hbq hJ4 a0 a1 e0 e1 hbw hKp hK5 HRo HSo wp1
  go_wp2_with fail
  refine (HRw.out _ hJ5.out).mono ?_
  rintro e w6 ⟨v, rfl, hown, hb⟩
  obtain ⟨p6, q6, hv6, hK6⟩ := lks_of_owns hown
  rw [List.length_append] at hv6
  subst hv6
  have hA : Below w6.heap.size w6 (w6.alloc (Obj.cells #[.int .i64 n, .slice p6 (L.length + L2.length) q6] 24)) := (Below.refl _ _).alloc (Nat.le_refl _) _
  have f0 := kept1 (kept1 b0 hb) hA
  have f1 := kept1 (kept1 b1 hb) hA
  have hB6 := Lib.hid ((hJ5.out.b.trans (hb.mono hJ5.out.b.size)).trans (hA.mono (Nat.le_trans hJ5.out.b.size hb.size)))
  have hK7 := Lib.hid (hK6.below hA)
  have hKd := Lib.hid ((hKc.out.below hb).below hA)
  clear hKc
  have g0 : (w6.alloc (Obj.cells #[.int .i64 n, .slice p6 (L.length + L2.length) q6] 24)).cell? ⟨w6.heap.size, 0, none⟩ = some (.int .i64 n) := by simp [go_sem]
  have g1 : (w6.alloc (Obj.cells #[.int .i64 n, .slice p6 (L.length + L2.length) q6] 24)).cell? ⟨w6.heap.size, 1, none⟩ = some (.slice p6 (L.length + L2.length) q6) := by simp [go_sem]
  clear hown hb hJ5 k0 k1 HRw hA b0 b1 hK6
  go_wp2_with fail
  generalize w6.alloc (Obj.cells #[.int .i64 n, .slice p6 (L.length + L2.length) q6] 24) = W6 at *
  generalize w6.heap.size = wb at *
  refine (HEw.out _ _ _ hK7.out).mono ?_
  rintro e w7 ⟨rfl, hb⟩
  have h0 := kept1 f0 hb
  have h1 := kept1 f1 hb
  have i0 := kept1 g0 hb
  have i1 := kept1 g1 hb
  have hB7 := Lib.hid (hB6.out.trans (hb.mono hB6.out.size))
  have hK8 := Lib.hid (hK7.out.below hb)
  have hKe := Lib.hid (hKd.out.below hb)
  clear hKd
  clear hb hB6 f0 f1 g0 g1 hK7 HEw
  go_wp2_with fail
  refine (HSa.out _).mono ?_
  rintro e w8 ⟨rfl, hb⟩
  have j0 := kept1 h0 hb
  have j1 := kept1 h1 hb
  have l0 := kept1 i0 hb
  have l1 := kept1 i1 hb
  have hB8 := Lib.hid (hB7.out.trans (hb.mono hB7.out.size))
  have hK9 := Lib.hid (hK8.out.below hb)
  have hKf := Lib.hid (hKe.out.below hb)
  clear hKe
  clear hb hB7 h0 h1 i0 i1 hK8
  go_wp2_with fail
  refine (HSw.out _ _ _ _ _ hKf.out hK9.out).mono ?_
  rintro e w9 ⟨rfl, hb⟩
  have hB9 := Lib.hid (hB8.out.trans (hb.mono hB8.out.size))
  clear hb hB8 j0 j1 l0 l1
  go_wp2
  go_ret
  exact ⟨rfl, hB9.out⟩

set_option maxRecDepth 100000 in
set_option maxHeartbeats 4000000 in
theorem changes_other (n : Int) (a b d : Option Addr) (m cap p q c1 c2 : Nat) (h : ¬ ((decide (m ≤ 310) && decide (n ≤ 70)) = true ∧ p ≤ 30 ∧ q ≤ 60)) (w : World) :
    Calls Try.prog 5 #[sysV n a m cap, .slice b p c1, .slice d q c2] w (LawPost w) := by
  have HSa := Lib.hid fun (W : World) => sanity_any W
  obtain ⟨sm, hsm⟩ : ∃ sm, (decide (m ≤ 310) && decide (n ≤ 70)) = sm := ⟨_, rfl⟩
  have HSm := Lib.hid fun (W : World) => small_any n a m cap sm (Lib.hid hsm) W
  rw [hsm] at h
  replace h := Lib.hid h
  clear hsm
  unfold sysV at *
  cases sm
  · go_enter Try.func5, Try.ntmps5
    go_wp2_with fail
    refine (HSm.out _).mono ?_
    rintro e w1 ⟨rfl, hb⟩
    have hB1 := bstep1 (Below.refl _ _) hb
    clear hb HSm
    go_wp2_with fail
    refine (HSa.out _).mono ?_
    rintro e w4 ⟨rfl, hb⟩
    go_wp2
    go_ret
    exact ⟨rfl, hB1.trans (hb.mono hB1.size)⟩
  · by_cases h1 : p ≤ 30
    · have hn1 : ¬ (30 : Int) < (p : Int) := by omega
      have hn2 : (60 : Int) < (q : Int) := by
        by_cases e : q ≤ 60
        · exact absurd ⟨rfl, h1, e⟩ h.out
        · omega
      go_enter Try.func5, Try.ntmps5
      go_wp2_with fail
      refine (HSm.out _).mono ?_
      rintro e w1 ⟨rfl, hb⟩
      have hB1 := bstep1 (Below.refl _ _) hb
      clear hb HSm
      go_wp2_with fail
      refine (HSa.out _).mono ?_
      rintro e w4 ⟨rfl, hb⟩
      go_wp2
      go_ret
      exact ⟨rfl, hB1.trans (hb.mono hB1.size)⟩
    · have hn1 : (30 : Int) < (p : Int) := by omega
      go_enter Try.func5, Try.ntmps5
      go_wp2_with fail
      refine (HSm.out _).mono ?_
      rintro e w1 ⟨rfl, hb⟩
      have hB1 := bstep1 (Below.refl _ _) hb
      clear hb HSm
      go_wp2_with fail
      refine (HSa.out _).mono ?_
      rintro e w4 ⟨rfl, hb⟩
      go_wp2
      go_ret
      exact ⟨rfl, hB1.trans (hb.mono hB1.size)⟩

/-- the law, whatever the system, the links and the numbers -/
theorem chainChanges_true (w : World) (n : Int) (a : Option Addr) (m cap : Nat) (_ : I64 n) (ha : a = none → cap = 0) (_ : m ≤ maxLen) (L : List Ch.Lk) (hm : L.length = m) (hL : LksAt w a L) (_ : ∀ i, i < m → I64l (L.getD i Ch.noLk))
    (b : Option Addr) (p c1 : Nat) (hb : b = none → c1 = 0) (_ : p ≤ maxLen) (L2 : List Ch.Lk) (hp : L2.length = p) (hx : LksAt w b L2) (_ : ∀ i, i < p → I64l (L2.getD i Ch.noLk)) (d : Option Addr) (q c2 : Nat) (_ : d = none → c2 = 0) (_ : q ≤ maxLen) (xs : List Int) (hq : xs.length = q) (hy : IntsAt w d xs) (_ : ∀ i, i < q → I64 (xs.getD i 0)) :
    Calls Try.prog 5 #[sysV n a m cap, .slice b p c1, .slice d q c2] w (LawPost w) := by
  by_cases h : (decide (m ≤ 310) && decide (n ≤ 70)) = true ∧ p ≤ 30 ∧ q ≤ 60
  · obtain ⟨h1, h2, h3⟩ := h
    have hm9 : m ≤ 310 := by simp at h1; omega
    by_cases hc : (Ch.check n L).1 = 0
    · by_cases he : (Ch.check n (L ++ L2)).1 = 0
      · exact changes_ok2 n a b d m cap p q c1 c2 L L2 xs (Lib.hid hm) (Lib.hid hp) (Lib.hid hq) h2 h3 hm9 (Lib.hid h1) (Lib.hid ha) (Lib.hid hb) hc _ rfl he w (Lib.hid hL) (Lib.hid hx) (Lib.hid hy)
      · exact changes_ok1 n a b d m cap p q c1 c2 L L2 xs (Lib.hid hm) (Lib.hid hp) (Lib.hid hq) h2 h3 hm9 (Lib.hid h1) (Lib.hid ha) (Lib.hid hb) hc _ rfl he w (Lib.hid hL) (Lib.hid hx) (Lib.hid hy)
    · exact changes_bad n a b d m cap p q c1 c2 L L2 xs (Lib.hid hm) (Lib.hid hp) (Lib.hid hq) h2 h3 hm9 (Lib.hid h1) (Lib.hid ha) (Lib.hid hb) _ rfl hc w (Lib.hid hL) (Lib.hid hx) (Lib.hid hy)
  · exact changes_other n a b d m cap p q c1 c2 h w
end Go.Proofs.Ytadopopnagmggaa
