/- The law PlateThree: three plates that are worked in turn. -/
import Derived.Test.YtidcedilfhmllaaDoorZ29
import Derived.Test.YtidcedilfhmllaaDoorZJlp
import Derived.Test.YtidcedilfhmllaaDoorZJjg
import Derived.Test.YtidcedilfhmllaaDoorZThg
set_option linter.unusedSimpArgs false
set_option linter.unusedVariables false
namespace Go.Proofs.YtidcedilfhmllaaDoor
open Go.RowKit

/-- a turn that is none, or a side -/
theorem three_no1 (side a b last : Int) (h : ¬ (Pl.ix a 8 = true ∧ Pl.ix b 8 = true)) (w : World) (hT : Hid (Tab w.heap.size w)) :
    Calls Tryd.prog 7 #[.int .i64 side, .int .i64 a, .int .i64 b, .int .i64 last] w (LawPost w) := by
    have HS := Lib.hid (sanityP_any w hT)
    have HA := Lib.hid (pComposeP_no a b h w)
    have HB := Lib.hid (pInverseP_gen 0 w)
    have HC := Lib.hid (fun x => pComposeP_gen x last w)
    have HD := Lib.hid (pComposeP_gen a 1 w)
    clear h hT
    go_enter Tryd.func7, Tryd.ntmps7
    go_wp2_with fail
    refine (HA.out).mono ?_
    rintro e w1 ⟨rfl, hw1⟩
    subst hw1
    go_wp2_with fail
    refine (HB.out).mono ?_
    rintro e w1 ⟨⟨x1, y1, rfl, _⟩, hw1⟩
    subst hw1
    replace HC := Lib.hid (HC.out x1)
    go_wp2_with fail
    refine (HC.out).mono ?_
    rintro e w1 ⟨⟨x2, y2, rfl, _⟩, hw1⟩
    subst hw1
    go_wp2_with fail
    refine (HD.out).mono ?_
    rintro e w1 ⟨⟨x3, y3, rfl, _⟩, hw1⟩
    subst hw1
    go_wp2_with fail
    refine (HS.out).mono ?_
    rintro e w2 ⟨rfl, hb2⟩
    go_wp2
    go_ret
    exact ⟨rfl, hb2⟩
theorem three_no2 (side : Int) (a b : Nat) (last : Int) (ha : a < 8) (hb : b < 8) (h : Pl.ix last 8 = false) (w : World) (hT : Hid (Tab w.heap.size w)) :
    Calls Tryd.prog 7 #[.int .i64 side, .int .i64 (a : Int), .int .i64 (b : Int), .int .i64 last] w (LawPost w) := by
    have HS := Lib.hid (sanityP_any w hT)
    have HA := Lib.hid (pComposeP_ok a b ha hb w)
    have HB := Lib.hid (pInverseP_ok (Pl.cmp a b) (Pl.cmp_lt ha hb) w)
    have HC := Lib.hid (pComposeP_no (Pl.inv (Pl.cmp a b) : Nat) last (fun q => by rw [h] at q; exact absurd q.2 (by decide)) w)
    have HD := Lib.hid (pComposeP_gen a 1 w)
    clear h hT
    go_enter Tryd.func7, Tryd.ntmps7
    go_wp2_with fail
    refine (HA.out).mono ?_
    rintro e w1 ⟨rfl, hw1⟩
    subst hw1
    go_wp2_with fail
    refine (HB.out).mono ?_
    rintro e w1 ⟨rfl, hw1⟩
    subst hw1
    go_wp2_with fail
    refine (HC.out).mono ?_
    rintro e w1 ⟨rfl, hw1⟩
    subst hw1
    go_wp2_with fail
    refine (HD.out).mono ?_
    rintro e w1 ⟨⟨x3, y3, rfl, _⟩, hw1⟩
    subst hw1
    go_wp2_with fail
    refine (HS.out).mono ?_
    rintro e w2 ⟨rfl, hb2⟩
    go_wp2
    go_ret
    exact ⟨rfl, hb2⟩
set_option maxRecDepth 100000 in
theorem three_no3 (side : Int) (a b last : Nat) (ha : a < 8) (hb : b < 8) (hl : last < 8) (h : side < 1 ∨ ¬ side < 1 ∧ 6 < side) (w : World) (hT : Hid (Tab w.heap.size w)) :
    Calls Tryd.prog 7 #[.int .i64 side, .int .i64 (a : Int), .int .i64 (b : Int), .int .i64 (last : Int)] w (LawPost w) := by
    have HS := Lib.hid (sanityP_any w hT)
    have HA := Lib.hid (pComposeP_ok a b ha hb w)
    have HB := Lib.hid (pInverseP_ok (Pl.cmp a b) (Pl.cmp_lt ha hb) w)
    have HC := Lib.hid (pComposeP_ok (Pl.inv (Pl.cmp a b)) last (Pl.inv_lt (Pl.cmp_lt ha hb)) hl w)
    have HD := Lib.hid (pComposeP_ok a 1 ha (by omega) w)
    clear hT ha hb hl
    rcases h with h | ⟨h, h2⟩
    · go_enter Tryd.func7, Tryd.ntmps7
      go_wp2_with fail
      refine (HA.out).mono ?_
      rintro e w1 ⟨rfl, hw1⟩
      subst hw1
      go_wp2_with fail
      refine (HB.out).mono ?_
      rintro e w1 ⟨rfl, hw1⟩
      subst hw1
      go_wp2_with fail
      refine (HC.out).mono ?_
      rintro e w1 ⟨rfl, hw1⟩
      subst hw1
      go_wp2_with fail
      refine (HD.out).mono ?_
      rintro e w1 ⟨rfl, hw1⟩
      subst hw1
      go_wp2_with fail
      refine (HS.out).mono ?_
      rintro e w2 ⟨rfl, hb2⟩
      go_wp2
      go_ret
      exact ⟨rfl, hb2⟩
    · go_enter Tryd.func7, Tryd.ntmps7
      go_wp2_with fail
      refine (HA.out).mono ?_
      rintro e w1 ⟨rfl, hw1⟩
      subst hw1
      go_wp2_with fail
      refine (HB.out).mono ?_
      rintro e w1 ⟨rfl, hw1⟩
      subst hw1
      go_wp2_with fail
      refine (HC.out).mono ?_
      rintro e w1 ⟨rfl, hw1⟩
      subst hw1
      go_wp2_with fail
      refine (HD.out).mono ?_
      rintro e w1 ⟨rfl, hw1⟩
      subst hw1
      go_wp2_with fail
      refine (HS.out).mono ?_
      rintro e w2 ⟨rfl, hb2⟩
      go_wp2
      go_ret
      exact ⟨rfl, hb2⟩

theorem chk_of {s m : Int} {L : List Pl.Wk} (h1 : 1 ≤ s ∧ s ≤ 6) (h2 : 1 ≤ m ∧ m ≤ 6) (h3 : L.length ≤ 16) (h : Pl.Ok m L) : Pl.chk s m L = 0 := by
  unfold Pl.chk
  rw [if_neg (by omega), if_neg (by omega), if_pos]
  rw [List.all_eq_true]
  intro x hx
  obtain ⟨i, hi, he⟩ := List.getElem_of_mem hx
  have := h i hi
  rw [List.getD, List.getElem?_eq_getElem hi] at this
  rw [← he]
  exact this
theorem cpl_of {s : Nat} {L : List Pl.Wk} (h1 : 1 ≤ s) (h6 : s ≤ 6) (h3 : L.length ≤ 16) (h : Pl.Ok 3 L) {p : Int} (hp : p = 0 ∨ p = 1 ∨ p = 2) : Pl.cpl (s : Int) 3 L p = 0 := by
  unfold Pl.cpl
  rw [chk_of (by omega) (by omega) h3 h, if_neg (by simp), if_pos]
  unfold Pl.ix
  exact decide_eq_true (by omega)
/-- what the law's tests find -/
def Cs (s last : Int) (f g : Bool) (n : Int) : Prop :=
  ((last == 0) = true ∧ ¬ 4 ≤ last ∧ f = true) ∨ ((last == 0) = false ∧ ¬ 4 ≤ last) ∨
  ((last == 0) = false ∧ 4 ≤ last ∧ ¬ 2 ≤ s ∧ s ≤ 3 ∧ g = true ∧ (s == 4) = false) ∨
  ((last == 0) = false ∧ 4 ≤ last ∧ 2 ≤ s ∧ f = false ∧ s ≤ 3 ∧ g = true ∧ (s == 4) = false) ∨
  ((last == 0) = false ∧ 4 ≤ last ∧ 2 ≤ s ∧ f = false ∧ ¬ s ≤ 3 ∧ (s == 4) = true ∧ n = 1) ∨
  ((last == 0) = false ∧ 4 ≤ last ∧ 2 ≤ s ∧ f = false ∧ ¬ s ≤ 3 ∧ (s == 4) = false)
theorem three_cases (s a b last : Nat) (h1 : 1 ≤ s) (h6 : s ≤ 6) (ha : a < 8) (hb : b < 8) (hl : last < 8) {p : Int} (hp : p = 0 ∨ p = 1 ∨ p = 2) :
    Cs s last (Pl.frd s (Pl.signs (Pl.shop3 a b last) p) == 0) (Pl.frd s (Pl.signs (Pl.shop4 a b last) p) == 0) (Pl.frd s (Pl.signs (Pl.shop4 a b last) p)) := by
  unfold Cs
  have e0 : ((last : Int) == 0) = decide (last = 0) := by rw [Bool.eq_iff_iff, beq_iff_eq, decide_eq_true_eq]; omega
  have e4 : ((s : Int) == 4) = decide (s = 4) := by rw [Bool.eq_iff_iff, beq_iff_eq, decide_eq_true_eq]; omega
  rw [e0, e4]
  by_cases c0 : last = 0
  · subst c0
    have := Pl.three_flat h1 h6 ha hb hp
    left
    exact ⟨by decide, by omega, by rw [this]; rfl⟩
  · have d0 : decide (last = 0) = false := decide_eq_false c0
    by_cases c4 : 4 ≤ last
    · by_cases c2 : 2 ≤ s
      · have h := Pl.three_twist c2 h6 ha hb c4 hl hp
        have hf : (Pl.frd s (Pl.signs (Pl.shop3 a b last) p) == 0) = false := by simpa using h
        by_cases c3 : s ≤ 3
        · have k := Pl.three_more (s := s) (by omega) ha hb c4 hl hp
          rw [if_neg (by omega)] at k
          exact .inr (.inr (.inr (.inl ⟨d0, by omega, by omega, hf, by omega, by rw [k]; rfl, decide_eq_false (by omega)⟩)))
        · by_cases c5 : s = 4
          · have k := Pl.three_more (s := s) (by omega) ha hb c4 hl hp
            rw [if_pos c5] at k
            exact .inr (.inr (.inr (.inr (.inl ⟨d0, by omega, by omega, hf, by omega, decide_eq_true c5, k⟩))))
          · exact .inr (.inr (.inr (.inr (.inr ⟨d0, by omega, by omega, hf, by omega, decide_eq_false c5⟩))))
      · have k := Pl.three_more (s := s) (by omega) ha hb c4 hl hp
        rw [if_neg (by omega)] at k
        exact .inr (.inr (.inl ⟨d0, by omega, by omega, by omega, by rw [k]; rfl, decide_eq_false (by omega)⟩))
    · exact .inr (.inl ⟨d0, by omega⟩)
/-- three workings -/
def w3 (a b c : Nat) : List Pl.Wk := [⟨0, 1, a⟩, ⟨1, 2, b⟩, ⟨2, 0, c⟩]
theorem wks3_new (w : World) (a b c : Nat) : WksAt (w.alloc (Obj.cells #[.int .i64 0, .int .i64 1, .int .i64 (a : Int), .int .i64 1, .int .i64 2, .int .i64 (b : Int), .int .i64 2, .int .i64 0, .int .i64 (c : Int)] 61)) (some ⟨w.heap.size, 0, none⟩) (w3 a b c) := fun k hk => by
  have hk3 : k < 3 := hk
  have ea : ∀ j, (⟨w.heap.size, 0, none⟩ : Addr).add j = ⟨w.heap.size, j, none⟩ := fun j => by unfold Addr.add; split <;> simp_all
  refine ⟨_, rfl, ?_⟩
  rw [ea]
  match k, hk3 with
  | 0, _ => exact ⟨by simp [go_sem, w3], by simp [go_sem, w3], by simp [go_sem, w3]⟩
  | 1, _ => exact ⟨by simp [go_sem, w3], by simp [go_sem, w3], by simp [go_sem, w3]⟩
  | 2, _ => exact ⟨by simp [go_sem, w3], by simp [go_sem, w3], by simp [go_sem, w3]⟩
set_option maxRecDepth 100000 in
set_option maxHeartbeats 4000000 in
theorem three_ok (s a b last : Nat) (h1 : 1 ≤ s) (h6 : s ≤ 6) (ha : a < 8) (hb : b < 8) (hl : last < 8) (w : World) (hT : Hid (Tab w.heap.size w)) :
    Calls Tryd.prog 7 #[.int .i64 (s : Int), .int .i64 (a : Int), .int .i64 (b : Int), .int .i64 (last : Int)] w (LawPost w) := by
    have HS := Lib.hid (fun (W : World) (hb : Below w.heap.size w W) => sanityP_any W (Lib.hid (Tab.mono (hT.out.on hb) hb.size)))
    have HA := Lib.hid (pComposeP_ok a b ha hb w)
    have HB := Lib.hid (pInverseP_ok (Pl.cmp a b) (Pl.cmp_lt ha hb) w)
    have HC := Lib.hid (pComposeP_ok (Pl.inv (Pl.cmp a b)) last (Pl.inv_lt (Pl.cmp_lt ha hb)) hl w)
    have HD := Lib.hid (pComposeP_ok a 1 ha (by omega) w)
    have i1 : ¬ (s : Int) < 1 := by omega
    have i2 : ¬ 6 < (s : Int) := by omega
    go_enter Tryd.func7, Tryd.ntmps7
    go_wp2_with fail
    refine (HA.out).mono ?_
    rintro e w1 ⟨rfl, hw1⟩
    subst hw1
    go_wp2_with fail
    refine (HB.out).mono ?_
    rintro e w1 ⟨rfl, hw1⟩
    subst hw1
    go_wp2_with fail
    refine (HC.out).mono ?_
    rintro e w1 ⟨rfl, hw1⟩
    subst hw1
    go_wp2_with fail
    refine (HD.out).mono ?_
    rintro e w1 ⟨rfl, hw1⟩
    subst hw1
    go_upto_region 8 with fail
    obtain ⟨c, hc⟩ : ∃ c, Pl.cmp (Pl.inv (Pl.cmp a b)) last = c := ⟨_, rfl⟩
    have hL3 : Pl.shop3 a b last = w3 a b c := by unfold Pl.shop3 w3; rw [hc]
    have hWk : Hid (WksAt ((w1.alloc (Obj.cells #[.int .i64 0, .int .i64 1, .int .i64 (a : Int), .int .i64 1, .int .i64 2, .int .i64 (b : Int), .int .i64 2, .int .i64 0, .int .i64 ((Pl.cmp (Pl.inv (Pl.cmp a b)) last : Nat) : Int)] 61)).alloc (Obj.cells #[.int .i64 (s : Int), .int .i64 3, .slice (some ⟨w1.heap.size, 0, none⟩) 3 3] 34)) (some ⟨w1.heap.size, 0, none⟩) (Pl.shop3 a b last)) := Lib.hid (by rw [hL3, hc]; exact (wks3_new w1 a b c).below (below_alloc (Below.refl _ _) _))
    have k0 : ((w1.alloc (Obj.cells #[.int .i64 0, .int .i64 1, .int .i64 (a : Int), .int .i64 1, .int .i64 2, .int .i64 (b : Int), .int .i64 2, .int .i64 0, .int .i64 ((Pl.cmp (Pl.inv (Pl.cmp a b)) last : Nat) : Int)] 61)).alloc (Obj.cells #[.int .i64 (s : Int), .int .i64 3, .slice (some ⟨w1.heap.size, 0, none⟩) 3 3] 34)).cell? ⟨w1.heap.size + 1, 0, none⟩ = some (.int .i64 (s : Int)) := by simp [go_sem]
    have k1 : ((w1.alloc (Obj.cells #[.int .i64 0, .int .i64 1, .int .i64 (a : Int), .int .i64 1, .int .i64 2, .int .i64 (b : Int), .int .i64 2, .int .i64 0, .int .i64 ((Pl.cmp (Pl.inv (Pl.cmp a b)) last : Nat) : Int)] 61)).alloc (Obj.cells #[.int .i64 (s : Int), .int .i64 3, .slice (some ⟨w1.heap.size, 0, none⟩) 3 3] 34)).cell? ⟨w1.heap.size + 1, 1, none⟩ = some (.int .i64 3) := by simp [go_sem]
    have k2 : ((w1.alloc (Obj.cells #[.int .i64 0, .int .i64 1, .int .i64 (a : Int), .int .i64 1, .int .i64 2, .int .i64 (b : Int), .int .i64 2, .int .i64 0, .int .i64 ((Pl.cmp (Pl.inv (Pl.cmp a b)) last : Nat) : Int)] 61)).alloc (Obj.cells #[.int .i64 (s : Int), .int .i64 3, .slice (some ⟨w1.heap.size, 0, none⟩) 3 3] 34)).cell? ⟨w1.heap.size + 1, 2, none⟩ = some (.slice (some ⟨w1.heap.size, 0, none⟩) 3 3) := by simp [go_sem]
    have hX : Below w1.heap.size w1 ((w1.alloc (Obj.cells #[.int .i64 0, .int .i64 1, .int .i64 (a : Int), .int .i64 1, .int .i64 2, .int .i64 (b : Int), .int .i64 2, .int .i64 0, .int .i64 ((Pl.cmp (Pl.inv (Pl.cmp a b)) last : Nat) : Int)] 61)).alloc (Obj.cells #[.int .i64 (s : Int), .int .i64 3, .slice (some ⟨w1.heap.size, 0, none⟩) 3 3] 34)) := below_alloc (below_alloc (Below.refl _ _) _) _
    have hck3 : Pl.chk (s : Int) 3 (Pl.shop3 a b last) = 0 := chk_of (by omega) (by omega) (by unfold Pl.shop3; simp) (Pl.ok3 ha hb hl)
    have hck4 : Pl.chk (s : Int) 3 (Pl.shop3 a b last ++ [⟨0, 1, ((Pl.cmp a 1 : Nat) : Int)⟩]) = 0 := chk_of (by omega) (by omega) (by unfold Pl.shop3; simp) (Pl.ok4 ha hb hl)
    have HW := Lib.hid (pWith_ok (s : Int) 3 (some ⟨w1.heap.size, 0, none⟩) 3 3 (Lib.hid (fun h => by cases h)) (Pl.shop3 a b last) rfl (by omega) ⟨0, 1, ((Pl.cmp a 1 : Nat) : Int)⟩ hck3 hck4 _ hWk)
    simp only at HW
    clear hL3 hc c HA HB HC HD hck3 hck4
    generalize hYe : ((w1.alloc (Obj.cells #[.int .i64 0, .int .i64 1, .int .i64 (a : Int), .int .i64 1, .int .i64 2, .int .i64 (b : Int), .int .i64 2, .int .i64 0, .int .i64 ((Pl.cmp (Pl.inv (Pl.cmp a b)) last : Nat) : Int)] 61)).alloc (Obj.cells #[.int .i64 (s : Int), .int .i64 3, .slice (some ⟨w1.heap.size, 0, none⟩) 3 3] 34)) = Y at *
    clear hYe
    generalize w1.heap.size + 1 = sb at *
    go_wp2_with fail
    refine (HW.out).mono ?_
    rintro e w2 ⟨a', c', rfl, hWk4, _, hb2⟩
    have hX2 := hX.trans (hb2.mono hX.size)
    replace k0 := kept1 k0 hb2
    replace k1 := kept1 k1 hb2
    replace k2 := kept1 k2 hb2
    replace hWk := Lib.hid (hWk.out.below hb2)
    clear hX hb2 HW
    go_upto_region 11 with fail
    have m0 : (w2.alloc (Obj.cells #[.int .i64 (s : Int), .int .i64 3, .slice a' 4 c'] 34)).cell? ⟨w2.heap.size, 0, none⟩ = some (.int .i64 (s : Int)) := by simp [go_sem]
    have m1 : (w2.alloc (Obj.cells #[.int .i64 (s : Int), .int .i64 3, .slice a' 4 c'] 34)).cell? ⟨w2.heap.size, 1, none⟩ = some (.int .i64 3) := by simp [go_sem]
    have m2 : (w2.alloc (Obj.cells #[.int .i64 (s : Int), .int .i64 3, .slice a' 4 c'] 34)).cell? ⟨w2.heap.size, 2, none⟩ = some (.slice a' 4 c') := by simp [go_sem]
    have hb3 : Below w2.heap.size w2 (w2.alloc (Obj.cells #[.int .i64 (s : Int), .int .i64 3, .slice a' 4 c'] 34)) := below_alloc (Below.refl _ _) _
    replace k0 := kept1 k0 hb3
    replace k1 := kept1 k1 hb3
    replace k2 := kept1 k2 hb3
    replace hWk := Lib.hid (hWk.out.below hb3)
    replace hWk4 := Lib.hid (hWk4.out.below hb3)
    have hX := hX2.trans (hb3.mono hX2.size)
    clear hb3 hX2
    generalize (w2.alloc (Obj.cells #[.int .i64 (s : Int), .int .i64 3, .slice a' 4 c'] 34)) = X at *
    generalize w2.heap.size = mb at *
    clear w2
    have hcs := fun (p : Int) (hp : p = 0 ∨ p = 1 ∨ p = 2) => three_cases s a b last h1 h6 ha hb hl hp
    replace hcs := Lib.hid hcs
    have HF3 := Lib.hid (fun (p : Int) (hp : p = 0 ∨ p = 1 ∨ p = 2) (W : World) (hb' : Below X.heap.size X W) => pFlat_ok s 3 (some ⟨w1.heap.size, 0, none⟩) 3 3 (Pl.shop3 a b last) rfl p (Pl.vs_of (cpl_of h1 h6 (by unfold Pl.shop3; simp) (Pl.ok3 ha hb hl) hp)) W (Lib.hid (hWk.out.below hb')))
    have HF4 := Lib.hid (fun (p : Int) (hp : p = 0 ∨ p = 1 ∨ p = 2) (W : World) (hb' : Below X.heap.size X W) => pFlat_ok s 3 a' 4 c' (Pl.shop4 a b last) rfl p (Pl.vs_of (cpl_of h1 h6 (by unfold Pl.shop4 Pl.shop3; simp) (Pl.ok4 ha hb hl) hp)) W (Lib.hid (hWk4.out.below hb')))
    have HN4 := Lib.hid (fun (p : Int) (hp : p = 0 ∨ p = 1 ∨ p = 2) (W : World) (hb' : Below X.heap.size X W) => pFreedom_ok s 3 a' 4 c' (Pl.shop4 a b last) rfl p (Pl.vs_of (cpl_of h1 h6 (by unfold Pl.shop4 Pl.shop3; simp) (Pl.ok4 ha hb hl) hp)) W (Lib.hid (hWk4.out.below hb')))
    have kk0 := Lib.hid (fun (W : World) (hb' : Below X.heap.size X W) => kept1 k0 hb')
    have mm0 := Lib.hid (fun (W : World) (hb' : Below X.heap.size X W) => kept1 m0 hb')
    have kk1 := Lib.hid (fun (W : World) (hb' : Below X.heap.size X W) => kept1 k1 hb')
    have mm1 := Lib.hid (fun (W : World) (hb' : Below X.heap.size X W) => kept1 m1 hb')
    have kk2 := Lib.hid (fun (W : World) (hb' : Below X.heap.size X W) => kept1 k2 hb')
    have mm2 := Lib.hid (fun (W : World) (hb' : Below X.heap.size X W) => kept1 m2 hb')
    clear k0 k1 k2 m0 m1 m2 hWk hWk4 ha hb hl hT h1 h6
    generalize Pl.cmp a b = n1 at *
    generalize Pl.cmp a 1 = n2 at *
    generalize Pl.inv n1 = n3 at *
    generalize Pl.cmp n3 last = n4 at *
    go_wp2_with fail
    go_loopw [20] (fun iv wr => ∃ (k : Nat), k ≤ 3 ∧ iv = .int .i64 (k : Int) ∧ Below X.heap.size X wr) (fun iv _ => 3 - (RowKit.intOf iv).toNat)
    case atStart => exact ⟨0, by omega, rfl, Below.refl _ _⟩
    case round =>
      obtain ⟨k, hk, rfl, hb⟩ := hrel
      by_cases hlt : k < 3
      · have i3 : (k : Int) < 3 := by omega
        have i4 : (0 : Int) ≤ (k : Int) := by omega
        have hp : (k : Int) = 0 ∨ (k : Int) = 1 ∨ (k : Int) = 2 := by omega
        have C := hcs.out _ hp
        replace HF3 := Lib.hid (HF3.out _ hp)
        replace HF4 := Lib.hid (HF4.out _ hp)
        replace HN4 := Lib.hid (HN4.out _ hp)
        generalize (Pl.frd s (Pl.signs (Pl.shop3 a b last) k) == 0) = f at *
        generalize (Pl.frd s (Pl.signs (Pl.shop4 a b last) k) == 0) = g at *
        generalize Pl.frd s (Pl.signs (Pl.shop4 a b last) k) = n at *
        clear hcs hp hk
        have q0 := kk0.out _ hb
        have q1 := kk1.out _ hb
        have q2 := kk2.out _ hb
        go_wp2_with fail
        refine (HF3.out _ hb).mono ?_
        rintro e w3 ⟨rfl, hb2⟩
        replace hb := hb.trans (hb2.mono hb.size)
        clear hb2 HF3 q0 q1 q2 kk0 kk1 kk2
        have q0 := mm0.out _ hb
        have q1 := mm1.out _ hb
        have q2 := mm2.out _ hb
        go_wp2_with fail
        refine (HF4.out _ hb).mono ?_
        rintro e w4 ⟨rfl, hb2⟩
        replace hb := hb.trans (hb2.mono hb.size)
        clear hb2 HF4 q0 q1 q2
        have q0 := mm0.out _ hb
        have q1 := mm1.out _ hb
        have q2 := mm2.out _ hb
        go_wp2_with fail
        refine (HN4.out _ hb).mono ?_
        rintro e w5 ⟨rfl, hb2⟩
        replace hb := hb.trans (hb2.mono hb.size)
        clear hb2 HN4 q0 q1 q2 mm0 mm1 mm2
        go_upto_region 19 with fail
        rcases C with ⟨l0, l4, rfl⟩ | ⟨l0, l4⟩ | ⟨l0, l4, s2, s3, rfl, s4⟩ | ⟨l0, l4, s2, rfl, s3, rfl, s4⟩ | ⟨l0, l4, s2, rfl, s3, s4, rfl⟩ | ⟨l0, l4, s2, rfl, s3, s4⟩
        all_goals (
          go_wp2_with fail
          exact ⟨⟨k + 1, by omega, by simp, hb⟩, by simp [RowKit.intOf]; omega⟩)
      · have i3 : ¬ (k : Int) < 3 := by omega
        have hT2 := HS.out _ (hX.trans (hb.mono hX.size))
        have HS2 := Lib.hid hT2
        have hbX := hX.trans (hb.mono hX.size)
        clear HS hT2 hb hX HF3 HF4 HN4 hcs kk0 kk1 kk2 mm0 mm1 mm2
        go_wp2_with fail
        refine HS2.out.mono ?_
        rintro e w9 ⟨rfl, hb2⟩
        replace hbX := hbX.trans (hb2.mono hbX.size)
        go_wp2
        go_ret
        exact ⟨rfl, hbX⟩

theorem plateThree_true (w : World) (side a b last : Int) (hT : Hid (Tab w.heap.size w)) :
    Calls Tryd.prog 7 #[.int .i64 side, .int .i64 a, .int .i64 b, .int .i64 last] w (LawPost w) := by
  by_cases h : Pl.ix a 8 = true ∧ Pl.ix b 8 = true
  · have h1 := of_decide_eq_true h.1
    have h2 := of_decide_eq_true h.2
    obtain ⟨x, rfl⟩ : ∃ x : Nat, a = x := ⟨a.toNat, by omega⟩
    obtain ⟨y, rfl⟩ : ∃ y : Nat, b = y := ⟨b.toNat, by omega⟩
    cases hl : Pl.ix last 8
    · exact three_no2 side x y last (by omega) (by omega) hl w hT
    · have h3 := of_decide_eq_true hl
      obtain ⟨z, rfl⟩ : ∃ z : Nat, last = z := ⟨last.toNat, by omega⟩
      by_cases hs : 1 ≤ side ∧ side ≤ 6
      · obtain ⟨s, rfl⟩ : ∃ s : Nat, side = s := ⟨side.toNat, by omega⟩
        exact three_ok s x y z (by omega) (by omega) (by omega) (by omega) (by omega) w hT
      · exact three_no3 side x y z (by omega) (by omega) (by omega) (by omega) w hT
  · exact three_no1 side a b last h w hT
end Go.Proofs.YtidcedilfhmllaaDoor
