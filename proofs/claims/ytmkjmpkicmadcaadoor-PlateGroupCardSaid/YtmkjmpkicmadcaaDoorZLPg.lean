/- The law PlateGroup: the turns are a group that acts on the cells. -/
import Derived.Test.YtmkjmpkicmadcaaDoorZ29
import Derived.Test.YtmkjmpkicmadcaaDoorZJlp
set_option linter.unusedSimpArgs false
set_option linter.unusedVariables false
namespace Go.Proofs.YtmkjmpkicmadcaaDoor
open Go.RowKit

/-- the answer of Compose, whatever is asked -/
theorem pComposeP_gen (a b : Int) (w : World) :
    Calls Tryd.prog 7 #[.int .i64 a, .int .i64 b] w fun e w' => (∃ x y : Int, e = .returned (.tuple #[.int .i64 x, .int .i64 y]) ∧ (y = 0 ∨ y = 1)) ∧ w' = w := by
  by_cases h : Pl.ix a 8 = true ∧ Pl.ix b 8 = true
  · have h1 := of_decide_eq_true h.1
    have h2 := of_decide_eq_true h.2
    obtain ⟨x, rfl⟩ : ∃ x : Nat, a = x := ⟨a.toNat, by omega⟩
    obtain ⟨y, rfl⟩ : ∃ y : Nat, b = y := ⟨b.toNat, by omega⟩
    exact (pComposeP_ok x y (by omega) (by omega) w).mono fun e w' ⟨he, hw⟩ => ⟨⟨_, _, he, Or.inl rfl⟩, hw⟩
  · exact (pComposeP_no a b h w).mono fun e w' ⟨he, hw⟩ => ⟨⟨_, _, he, Or.inr rfl⟩, hw⟩
theorem pInverseP_gen (a : Int) (w : World) :
    Calls Tryd.prog 8 #[.int .i64 a] w fun e w' => (∃ x y : Int, e = .returned (.tuple #[.int .i64 x, .int .i64 y]) ∧ (y = 0 ∨ y = 1)) ∧ w' = w := by
  cases h : Pl.ix a 8
  · exact (pInverseP_no a h w).mono fun e w' ⟨he, hw⟩ => ⟨⟨_, _, he, Or.inr rfl⟩, hw⟩
  · have h1 := of_decide_eq_true h
    obtain ⟨x, rfl⟩ : ∃ x : Nat, a = x := ⟨a.toNat, by omega⟩
    exact (pInverseP_ok x (by omega) w).mono fun e w' ⟨he, hw⟩ => ⟨⟨_, _, he, Or.inl rfl⟩, hw⟩

/-- a turn that is none -/
theorem group_none (side a b c cell : Int) (h : ¬ (Pl.ix a 8 = true ∧ Pl.ix b 8 = true ∧ Pl.ix c 8 = true)) (w : World) (hT : Hid (Tab w.heap.size w)) :
    Calls Tryd.prog 5 #[.int .i64 side, .int .i64 a, .int .i64 b, .int .i64 c, .int .i64 cell] w (LawPost w) := by
  have HS := Lib.hid (sanityP_any w hT)
  have HC := Lib.hid (pComposeP_gen b c w)
  have HI := Lib.hid (pInverseP_gen a w)
  by_cases h1 : Pl.ix a 8 = true ∧ Pl.ix b 8 = true
  · have e3 : Pl.ix c 8 = false := by
      cases e3 : Pl.ix c 8
      · rfl
      · exact (h ⟨h1.1, h1.2, e3⟩).elim
    have HA := Lib.hid (pComposeP_gen a b w)
    have HB := Lib.hid (pComposeP_no b c (fun q => by rw [e3] at q; exact absurd q.2 (by decide)) w)
    clear h h1 e3 HC
    go_enter Tryd.func5, Tryd.ntmps5
    go_wp2_with fail
    refine (HA.out).mono ?_
    rintro e w1 ⟨⟨x, y, rfl, hy⟩, hw1⟩
    subst hw1
    go_wp2_with fail
    refine (HB.out).mono ?_
    rintro e w1 ⟨rfl, hw1⟩
    subst hw1
    go_wp2_with fail
    refine (HI.out).mono ?_
    rintro e w1 ⟨⟨x2, y2, rfl, hy2⟩, hw1⟩
    subst hw1
    rcases hy with rfl | rfl
    all_goals (
      go_wp2_with fail
      refine (HS.out).mono ?_
      rintro e w2 ⟨rfl, hb2⟩
      go_wp2
      go_ret
      exact ⟨rfl, hb2⟩)
  · have HA := Lib.hid (pComposeP_no a b h1 w)
    clear h h1
    go_enter Tryd.func5, Tryd.ntmps5
    go_wp2_with fail
    refine (HA.out).mono ?_
    rintro e w1 ⟨rfl, hw1⟩
    subst hw1
    go_wp2_with fail
    refine (HC.out).mono ?_
    rintro e w1 ⟨⟨x, y, rfl, hy⟩, hw1⟩
    subst hw1
    go_wp2_with fail
    refine (HI.out).mono ?_
    rintro e w1 ⟨⟨x2, y2, rfl, hy2⟩, hw1⟩
    subst hw1
    go_wp2_with fail
    refine (HS.out).mono ?_
    rintro e w2 ⟨rfl, hb2⟩
    go_wp2
    go_ret
    exact ⟨rfl, hb2⟩

theorem group_act (side : Int) (a b c : Nat) (cell : Int) (ha : a < 8) (hb : b < 8) (hc : c < 8) (w : World) (hT : Hid (Tab w.heap.size w)) :
    Calls Tryd.prog 5 #[.int .i64 side, .int .i64 (a : Int), .int .i64 (b : Int), .int .i64 (c : Int), .int .i64 cell] w (LawPost w) := by
  have HAB := Lib.hid (pComposeP_ok a b ha hb w)
  have HBC := Lib.hid (pComposeP_ok b c hb hc w)
  have HI := Lib.hid (pInverseP_ok a ha w)
  have HX := pComposeP_ok (Pl.cmp a b) c (Pl.cmp_lt ha hb) hc w
  rw [Pl.cmp_assoc ha hb hc] at HX
  replace HX := Lib.hid HX
  have HY := Lib.hid (pComposeP_ok a (Pl.cmp b c) ha (Pl.cmp_lt hb hc) w)
  have HZ := pComposeP_ok a (Pl.inv a) ha (Pl.inv_lt ha) w
  rw [(Pl.gp ha).inv] at HZ
  replace HZ := Lib.hid HZ
  have HU := pComposeP_ok (Pl.inv a) a (Pl.inv_lt ha) ha w
  rw [(Pl.gp ha).inv'] at HU
  replace HU := Lib.hid HU
  have HV := pComposeP_ok a 0 ha (by omega) w
  rw [(Pl.gp ha).one] at HV
  replace HV := Lib.hid HV
  have HS := Lib.hid (fun (W : World) (hb : Below w.heap.size w W) => sanityP_any W (Lib.hid (Tab.mono (hT.out.on hb) hb.size)))
  by_cases hv : Pl.sd side = true ∧ Pl.ix (a : Int) 8 = true ∧ Pl.ix cell (side * side) = true
  · have hs := of_decide_eq_true hv.1
    have hcl := of_decide_eq_true hv.2.2
    obtain ⟨s, rfl⟩ : ∃ s : Nat, side = s := ⟨side.toNat, by omega⟩
    obtain ⟨x, rfl⟩ : ∃ x : Nat, cell = x := ⟨cell.toNat, by omega⟩
    have hx : x < s * s := by have := hcl.2; rw [← Int.natCast_mul] at this; omega
    have h1 : 1 ≤ s := by omega
    have h6 : s ≤ 6 := by omega
    have HT1 := Lib.hid (fun (W : World) => pTurn_ok s a x h1 h6 ha hx W)
    have HT2 := fun (W : World) => pTurn_ok s b (Pl.tk s a x) h1 h6 hb (Pl.tk_lt h6 hx ha) W
    rw [← Pl.tk_cmp h6 hx ha hb] at HT2
    replace HT2 := Lib.hid HT2
    have HT3 := Lib.hid (fun (W : World) => pTurn_ok s (Pl.cmp a b) x h1 h6 (Pl.cmp_lt ha hb) hx W)
    clear hv hs hcl hx h1 h6 hT
    go_enter Tryd.func5, Tryd.ntmps5
    go_wp2_with fail
    refine (HAB.out).mono ?_
    rintro e w1 ⟨rfl, hw1⟩
    subst hw1
    go_wp2_with fail
    refine (HBC.out).mono ?_
    rintro e w1 ⟨rfl, hw1⟩
    subst hw1
    go_wp2_with fail
    refine (HI.out).mono ?_
    rintro e w1 ⟨rfl, hw1⟩
    subst hw1
    go_wp2_with fail
    refine (HX.out).mono ?_
    rintro e w1 ⟨rfl, hw1⟩
    subst hw1
    go_wp2_with fail
    refine (HY.out).mono ?_
    rintro e w1 ⟨rfl, hw1⟩
    subst hw1
    go_wp2_with fail
    refine (HZ.out).mono ?_
    rintro e w1 ⟨rfl, hw1⟩
    subst hw1
    go_wp2_with fail
    refine (HU.out).mono ?_
    rintro e w1 ⟨rfl, hw1⟩
    subst hw1
    go_wp2_with fail
    refine (HV.out).mono ?_
    rintro e w1 ⟨rfl, hw1⟩
    subst hw1
    go_wp2_with fail
    refine (HT1.out _).mono ?_
    rintro e w1 ⟨rfl, hb1⟩
    go_wp2_with fail
    refine (HT2.out _).mono ?_
    rintro e w2 ⟨rfl, hb2⟩
    replace hb1 := hb1.trans (hb2.mono hb1.size)
    clear hb2
    go_wp2_with fail
    refine (HT3.out _).mono ?_
    rintro e w3 ⟨rfl, hb2⟩
    replace hb1 := hb1.trans (hb2.mono hb1.size)
    clear hb2
    go_wp2_with fail
    refine (HS.out _ hb1).mono ?_
    rintro e w4 ⟨rfl, hb2⟩
    replace hb1 := hb1.trans (hb2.mono hb1.size)
    go_wp2
    go_ret
    exact ⟨rfl, hb1⟩
  · have HT1 := Lib.hid (fun (W : World) => pTurn_no side a cell hv W)
    clear hv hT
    go_enter Tryd.func5, Tryd.ntmps5
    go_wp2_with fail
    refine (HAB.out).mono ?_
    rintro e w1 ⟨rfl, hw1⟩
    subst hw1
    go_wp2_with fail
    refine (HBC.out).mono ?_
    rintro e w1 ⟨rfl, hw1⟩
    subst hw1
    go_wp2_with fail
    refine (HI.out).mono ?_
    rintro e w1 ⟨rfl, hw1⟩
    subst hw1
    go_wp2_with fail
    refine (HX.out).mono ?_
    rintro e w1 ⟨rfl, hw1⟩
    subst hw1
    go_wp2_with fail
    refine (HY.out).mono ?_
    rintro e w1 ⟨rfl, hw1⟩
    subst hw1
    go_wp2_with fail
    refine (HZ.out).mono ?_
    rintro e w1 ⟨rfl, hw1⟩
    subst hw1
    go_wp2_with fail
    refine (HU.out).mono ?_
    rintro e w1 ⟨rfl, hw1⟩
    subst hw1
    go_wp2_with fail
    refine (HV.out).mono ?_
    rintro e w1 ⟨rfl, hw1⟩
    subst hw1
    go_wp2_with fail
    refine (HT1.out _).mono ?_
    rintro e w1 ⟨rfl, hb1⟩
    go_wp2_with fail
    refine (HS.out _ hb1).mono ?_
    rintro e w4 ⟨rfl, hb2⟩
    replace hb1 := hb1.trans (hb2.mono hb1.size)
    go_wp2
    go_ret
    exact ⟨rfl, hb1⟩

theorem plateGroup_true (w : World) (side a b c cell : Int) (hT : Hid (Tab w.heap.size w)) :
    Calls Tryd.prog 5 #[.int .i64 side, .int .i64 a, .int .i64 b, .int .i64 c, .int .i64 cell] w (LawPost w) := by
  by_cases h : Pl.ix a 8 = true ∧ Pl.ix b 8 = true ∧ Pl.ix c 8 = true
  · have h1 := of_decide_eq_true h.1
    have h2 := of_decide_eq_true h.2.1
    have h3 := of_decide_eq_true h.2.2
    obtain ⟨x, rfl⟩ : ∃ x : Nat, a = x := ⟨a.toNat, by omega⟩
    obtain ⟨y, rfl⟩ : ∃ y : Nat, b = y := ⟨b.toNat, by omega⟩
    obtain ⟨z, rfl⟩ : ∃ z : Nat, c = z := ⟨c.toNat, by omega⟩
    exact group_act side x y z cell (by omega) (by omega) (by omega) w hT
  · exact group_none side a b c cell h w hT
end Go.Proofs.YtmkjmpkicmadcaaDoor
