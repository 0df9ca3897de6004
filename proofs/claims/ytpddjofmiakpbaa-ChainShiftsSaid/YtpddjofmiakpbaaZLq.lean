/- The law ChainBetween, walked. -/
import Derived.Test.YtpddjofmiakpbaaZLo
import Derived.Test.YtpddjofmiakpbaaZ06
import Derived.Test.YtpddjofmiakpbaaZUg
import Derived.Deep.RegionHeld3
set_option linter.unusedSimpArgs false
set_option linter.unusedVariables false
namespace Go.Proofs.Ytpddjofmiakpbaa
open Go.RowKit

/-- the world in a law: the system in its box -/
structure SB (w : World) (n : Int) (a : Option Addr) (m cap : Nat) (L : List Ch.Lk) (W : World) : Prop where
  c0 : W.cell? ⟨w.heap.size, 0, none⟩ = some (.int .i64 n)
  c1 : W.cell? ⟨w.heap.size, 1, none⟩ = some (.slice a m cap)
  l : LksAt W a L
  b : Below w.heap.size w W
theorem SB.below {w W W' : World} {n : Int} {a : Option Addr} {m cap : Nat} {L : List Ch.Lk} (h : SB w n a m cap L W) (hb : Below W.heap.size W W') : SB w n a m cap L W' := ⟨kept1 h.c0 hb, kept1 h.c1 hb, h.l.below hb, h.b.trans (hb.mono h.b.size)⟩
/-- another system in a box of its own -/
structure SX (xb : Nat) (n : Int) (a : Option Addr) (m cap : Nat) (L : List Ch.Lk) (W : World) : Prop where
  c0 : W.cell? ⟨xb, 0, none⟩ = some (.int .i64 n)
  c1 : W.cell? ⟨xb, 1, none⟩ = some (.slice a m cap)
  l : LksAt W a L
theorem SX.below {W W' : World} {xb : Nat} {n : Int} {a : Option Addr} {m cap : Nat} {L : List Ch.Lk} (h : SX xb n a m cap L W) (hb : Below W.heap.size W W') : SX xb n a m cap L W' := ⟨kept1 h.c0 hb, kept1 h.c1 hb, h.l.below hb⟩
theorem keepY {w w' : World} {p q : Addr} {x y : Value} (h : w.cell? p = some x ∧ w.cell? q = some y) (hb : Below w.heap.size w w') : w'.cell? p = some x ∧ w'.cell? q = some y := ⟨kept1 h.1 hb, kept1 h.2 hb⟩
theorem lks_two (w : World) (u v z : Int) : LksAt (w.alloc (Obj.cells #[.int .i64 u, .int .i64 v, .int .i64 z, .int .i64 v, .int .i64 u, .int .i64 (-z)] 63)) (some ⟨w.heap.size, 0, none⟩) (Ch.two u v z) := lks_block (fun j x hx => by
  have h := World.alloc_heap_new w (Obj.cells #[.int .i64 u, .int .i64 v, .int .i64 z, .int .i64 v, .int .i64 u, .int .i64 (-z)] 63)
  simp only [World.cell?, h]
  rw [← hx, ← Array.getElem?_toList]
  rfl)

set_option maxRecDepth 100000 in
set_option maxHeartbeats 8000000 in
theorem between_err (n : Int) (a : Option Addr) (m cap : Nat) (u v z : Int) (L : List Ch.Lk) (hm : Hid (L.length = m)) (hm9 : m ≤ 298) (hz1 : -4503599627370496 ≤ z) (hz2 : z ≤ 4503599627370496) (hsm : Hid ((decide (m ≤ 310) && decide (n ≤ 70)) = true)) (k : Nat) (hE : Ch.EN n L k) (hno : ¬ ((Ch.bound n L k u v).2 = 0 ∧ (Ch.bound n L k v u).2 = 0 ∧ u ≠ v)) (w : World) (hL : Hid (LksAt w a L)) :
    Calls Try.prog 12 #[sysV n a m cap, .int .i64 u, .int .i64 v, .int .i64 z] w (LawPost w) := by
  have HSm := Lib.hid fun (W : World) => small_any n a m cap true hsm W
  have HSa := Lib.hid fun (W : World) => sanity_any W
  have HBo := Lib.hid fun (W : World) (h : SB w n a m cap L W) => bound_any n a cap L u v k hE.en W h.l
  have HBb := Lib.hid fun (W : World) (h : SB w n a m cap L W) => bound_any n a cap L v u k hE.en W h.l
  obtain ⟨B, be, hbo⟩ : ∃ B be, Ch.bound n L k u v = (B, be) := ⟨_, _, rfl⟩
  obtain ⟨C, ce, hbb⟩ : ∃ C ce, Ch.bound n L k v u = (C, ce) := ⟨_, _, rfl⟩
  rw [hbo, hbb] at hno
  rw [hbo, hm.out] at HBo
  rw [hbb, hm.out] at HBb
  unfold sysV at *
  replace hno := Lib.hid hno
  have hn1 : (m : Int) ≤ 298 := by omega
  have hn2 : ¬ (298 : Int) < (m : Int) := by omega
  have hn3 : ¬ z < -4503599627370496 := by omega
  have hn4 : ¬ (4503599627370496 : Int) < z := by omega
  clear hE hbo hbb
  go_enter Try.func12, Try.ntmps12
  go_wp2_with fail
  refine (HSm.out _).mono ?_
  rintro e w1 ⟨rfl, hb⟩
  have hB1 := bstep1 (Below.refl _ _) hb
  have hJ := Lib.hid (SB.mk (w := w) (n := n) (a := a) (m := m) (cap := cap) (W := w1) (kept1 (by simp [go_sem]) hb) (kept1 (by simp [go_sem]) hb) (hL.out.below hB1) hB1)
  clear hb hB1 HSm hsm hL
  have k0 := hJ.out.c0
  have k1 := hJ.out.c1
  go_wp2_with fail
  refine (HBo.out _ hJ.out).mono ?_
  rintro e w2 ⟨rfl, hb⟩
  have hJ2 := Lib.hid (hJ.out.below hb)
  clear hb hJ k0 k1 HBo
  have k0 := hJ2.out.c0
  have k1 := hJ2.out.c1
  go_wp2_with fail
  refine (HBb.out _ hJ2.out).mono ?_
  rintro e w3 ⟨rfl, hb⟩
  have hJ3 := Lib.hid (hJ2.out.below hb)
  clear hb hJ2 k0 k1 HBb
  by_cases h1 : be = 0
  · subst h1
    by_cases h2 : ce = 0
    · subst h2
      have h3 : u = v := Classical.byContradiction fun h => hno.out ⟨rfl, rfl, h⟩
      subst h3
      clear hno
      go_wp2_with fail
      refine (HSa.out _).mono ?_
      rintro e w99 ⟨rfl, hb⟩
      have hB := hJ3.out.b.trans (hb.mono hJ3.out.b.size)
      clear hb hJ3
      go_wp2
      go_ret
      exact ⟨rfl, hB⟩
    · have h3 : (ce != 0) = true := by rw [bne_iff_ne]; exact h2
      clear hno
      go_wp2_with fail
      refine (HSa.out _).mono ?_
      rintro e w99 ⟨rfl, hb⟩
      have hB := hJ3.out.b.trans (hb.mono hJ3.out.b.size)
      clear hb hJ3
      go_wp2
      go_ret
      exact ⟨rfl, hB⟩
  · have h3 : (be != 0) = true := by rw [bne_iff_ne]; exact h1
    clear hno
    go_wp2_with fail
    refine (HSa.out _).mono ?_
    rintro e w99 ⟨rfl, hb⟩
    have hB := hJ3.out.b.trans (hb.mono hJ3.out.b.size)
    clear hb hJ3
    go_wp2
    go_ret
    exact ⟨rfl, hB⟩
set_option maxRecDepth 100000 in
set_option maxHeartbeats 8000000 in
theorem between_ok (n : Int) (a : Option Addr) (m cap : Nat) (u v z : Int) (L : List Ch.Lk) (hm : Hid (L.length = m)) (hm9 : m ≤ 298) (hz1 : -4503599627370496 ≤ z) (hz2 : z ≤ 4503599627370496) (hsm : Hid ((decide (m ≤ 310) && decide (n ≤ 70)) = true)) (ha : Hid (a = none → cap = 0)) (k k2 : Nat) (hE : Ch.EN n L k) (hE2 : Ch.EN n (L ++ Ch.two u v z) k2) (hi bk : Int) (hb1 : Ch.bound n L k u v = (hi, 0)) (hb2 : Ch.bound n L k v u = (bk, 0)) (huv : u ≠ v) (w : World) (hL : Hid (LksAt w a L)) :
    Calls Try.prog 12 #[sysV n a m cap, .int .i64 u, .int .i64 v, .int .i64 z] w (LawPost w) := by
  have HSm := Lib.hid fun (W : World) => small_any n a m cap true hsm W
  have HSa := Lib.hid fun (W : World) => sanity_any W
  have HBo := Lib.hid fun (W : World) (h : SB w n a m cap L W) => bound_any n a cap L u v k hE.en W h.l
  have HBb := Lib.hid fun (W : World) (h : SB w n a m cap L W) => bound_any n a cap L v u k hE.en W h.l
  obtain ⟨hck, hu, hv, _, _⟩ := Ch.opn_at hE (Ch.bound_some (n := n) (L := L) (k := k) (u := u) (v := v) (by rw [hb1])).1
  obtain ⟨n1, n2, _⟩ := Ch.check_ok hck
  have hL9 : L.length ≤ 298 := by have := hm.out; omega
  have hck2 := Ch.two_check hck hL9 hu hv huv ⟨hz1, hz2⟩
  have hwe := Ch.two_with hck hL9 hu hv huv ⟨hz1, hz2⟩
  have hiff := Ch.between_iff hE hE2 hb1 hb2 hL9 huv ⟨hz1, hz2⟩
  have hbd := Ch.between_bound hE2 hck2 hu hv
  have hbr := Ch.bound_range hE.en v u
  rw [hb2] at hbr
  have HWi := Lib.hid fun (W : World) (x : Option Addr) (cx : Nat) (hx : x = none → cx = 0) (h : SB w n a m cap L W) (h2 : LksAt W x (Ch.two u v z)) => with_any n a x m 2 cap cx L (Ch.two u v z) hm (Lib.hid rfl) ha (Lib.hid hx) (by omega) W (Lib.hid h.l) (Lib.hid h2)
  rw [hwe] at HWi
  have hM : (L ++ Ch.two u v z).length = m + 2 := by rw [List.length_append, hm.out]; rfl
  have hM2 : L.length + (Ch.two u v z).length = m + 2 := by rw [hm.out]; rfl
  have hfl := fun Y h => Ch.fits_left (M := Ch.two u v z) (x := Y) hck h
  obtain ⟨M, hMM⟩ : ∃ M, L ++ Ch.two u v z = M := ⟨_, rfl⟩
  rw [hMM] at hM hck2 hiff hbd hE2 hfl
  have HCo := Lib.hid fun (W : World) (xb : Nat) (x : Option Addr) (cx : Nat) (h : SX xb n x (m + 2) cx M W) => consistentS_any n x cx M k2 hE2.en W h.l
  have HRe := Lib.hid fun (W : World) (xb : Nat) (x : Option Addr) (cx : Nat) (h : SX xb n x (m + 2) cx M W) => reach_any n x cx M u v k2 hE2.en hE2.cons W h.l
  obtain ⟨co, hco⟩ : ∃ co, Ch.cons n.toNat M [] k2 = co := ⟨_, rfl⟩
  rw [show Ch.consE n M k2 = (co, 0) by unfold Ch.consE; rw [if_neg (by omega), hco], hM] at HCo
  rw [hM] at HRe
  rw [hco] at hiff hbd
  rw [hb1, hm.out] at HBo
  rw [hb2, hm.out] at HBb
  have hrn := fun h => Ch.sharp_reach hE2 (u := u) (v := v) (by rw [hbd h])
  have HFy := Lib.hid fun (W : World) (h : SB w n a m cap L W) (x : Option Addr) (Y : List Int) (hx : IntsAt W x Y) => fits_any n a cap L x Y.length Y W h.l hx
  rw [hm.out] at HFy
  obtain ⟨N, rfl⟩ : ∃ N : Nat, n = (N : Int) := ⟨n.toNat, by omega⟩
  obtain ⟨i, rfl⟩ : ∃ i : Nat, u = (i : Int) := ⟨u.toNat, by omega⟩
  obtain ⟨j, rfl⟩ : ∃ j : Nat, v = (j : Int) := ⟨v.toNat, by omega⟩
  simp only [Int.toNat_natCast] at *
  have hui : i < N := by omega
  have hvj : j < N := by omega
  have hui2 : (i : Int) < (N : Int) := by omega
  have hvj2 : (j : Int) < (N : Int) := by omega
  have hne : ((i : Int) == (j : Int)) = false := by rw [beq_eq_false_iff_ne]; exact huv
  obtain ⟨hbr1, hbr2⟩ := hbr
  replace hiff := Lib.hid hiff
  replace hrn := Lib.hid (fun h => (⟨hbd h, hrn h⟩ : _ ∧ _))
  replace hfl := Lib.hid hfl
  replace hMM := Lib.hid hMM
  replace hM := Lib.hid hM
  replace hM2 := Lib.hid hM2
  unfold sysV at *
  have hn1 : (m : Int) ≤ 298 := by omega
  have hn2 : ¬ (298 : Int) < (m : Int) := by omega
  have hn3 : ¬ z < -4503599627370496 := by omega
  have hn4 : ¬ (4503599627370496 : Int) < z := by omega
  clear hE hE2 hb1 hb2 hck hck2 hwe hco hbd hu hv huv hL9
  go_enter Try.func12, Try.ntmps12
  go_wp2_with fail
  refine (HSm.out _).mono ?_
  rintro e w1 ⟨rfl, hb⟩
  have hB1 := bstep1 (Below.refl _ _) hb
  have hJ := Lib.hid (SB.mk (w := w) (n := (N : Int)) (a := a) (m := m) (cap := cap) (W := w1) (kept1 (by simp [go_sem]) hb) (kept1 (by simp [go_sem]) hb) (hL.out.below hB1) hB1)
  clear hb hB1 HSm hsm hL
  have k0 := hJ.out.c0
  have k1 := hJ.out.c1
  go_wp2_with fail
  refine (HBo.out _ hJ.out).mono ?_
  rintro e w2 ⟨rfl, hb⟩
  have hJ2 := Lib.hid (hJ.out.below hb)
  clear hb hJ k0 k1 HBo
  have k0 := hJ2.out.c0
  have k1 := hJ2.out.c1
  go_wp2_with fail
  refine (HBb.out _ hJ2.out).mono ?_
  rintro e w3 ⟨rfl, hb⟩
  have hJ3 := Lib.hid (hJ2.out.below hb)
  clear hb hJ2 k0 k1 HBb
  have k0 := hJ3.out.c0
  have k1 := hJ3.out.c1
  have hl2 := lks_two w3 (i : Int) (j : Int) z
  have hb3 : Below w3.heap.size w3 (w3.alloc (Obj.cells #[.int .i64 (i : Int), .int .i64 (j : Int), .int .i64 z, .int .i64 (j : Int), .int .i64 (i : Int), .int .i64 (-z)] 63)) := (Below.refl _ _).alloc (Nat.le_refl _) _
  have hJ4 := Lib.hid (hJ3.out.below hb3)
  replace hl2 := Lib.hid hl2
  clear hb3
  go_wp2_with fail
  refine (HWi.out _ _ _ (fun h => by cases h) hJ4.out hl2.out).mono ?_
  rintro e w5 ⟨kk, vv, rfl, _, hx2, hb⟩
  obtain ⟨hn9, hown⟩ := hx2 rfl
  subst kk
  rw [hMM.out, hM2.out, ← hM.out] at hown
  obtain ⟨px, cx, hv2, hK2⟩ := lks_of_owns hown
  rw [hM.out] at hv2
  subst hv2
  have hA5 : Below w5.heap.size w5 (w5.alloc (Obj.cells #[.int .i64 (N : Int), .slice px (m + 2) cx] 24)) := (Below.refl _ _).alloc (Nat.le_refl _) _
  have hJ5 := Lib.hid ((hJ4.out.below hb).below hA5)
  have hX5 : Hid (SX w5.heap.size (N : Int) px (m + 2) cx M (w5.alloc (Obj.cells #[.int .i64 (N : Int), .slice px (m + 2) cx] 24))) := Lib.hid ⟨by simp [go_sem], by simp [go_sem], hK2.below hA5⟩
  clear hb hJ3 hJ4 hl2 k0 k1 HWi hx2 hown hK2 hA5
  have k0 := hJ5.out.c0
  have k1 := hJ5.out.c1
  have x0 := hX5.out.c0
  have x1 := hX5.out.c1
  go_wp2_with fail
  generalize w5.alloc (Obj.cells #[.int .i64 (N : Int), .slice px (m + 2) cx] 24) = W5 at *
  generalize w5.heap.size = xb at *
  refine (HCo.out _ _ _ _ hX5.out).mono ?_
  rintro e w6 ⟨rfl, hb⟩
  have hJ6 := Lib.hid (hJ5.out.below hb)
  have hX6 := Lib.hid (hX5.out.below hb)
  clear hb hJ5 hX5 k0 k1 x0 x1 HCo
  cases co
  · have hni : ¬ (z ≤ hi ∧ -bk ≤ z) := fun h => by have := hiff.out.2 h; cases this
    clear hiff hrn
    by_cases h1 : z ≤ hi
    · have h2 : ¬ -bk ≤ z := fun h => hni ⟨h1, h⟩
      clear hni
      go_wp2_with fail
      refine (HSa.out _).mono ?_
      rintro e w99 ⟨rfl, hb⟩
      have hB := hJ6.out.b.trans (hb.mono hJ6.out.b.size)
      clear hb hJ6
      go_wp2
      go_ret
      exact ⟨rfl, hB⟩
    · clear hni
      go_wp2_with fail
      refine (HSa.out _).mono ?_
      rintro e w99 ⟨rfl, hb⟩
      have hB := hJ6.out.b.trans (hb.mono hJ6.out.b.size)
      clear hb hJ6
      go_wp2
      go_ret
      exact ⟨rfl, hB⟩
  · obtain ⟨h1, h2⟩ := hiff.out.1 rfl
    obtain ⟨hbd, Y, hY, hYf, hYd⟩ := hrn.out rfl
    rw [hbd] at hYd
    have hYg := hfl.out _ hYf
    obtain ⟨_, hYl, hYr, _⟩ := Ch.fits_sol hYf
    have hYn : Y.length = N := by omega
    have HR6 := Lib.hid fun h => HRe.out w6 xb px cx h
    rw [hY] at HR6
    have HF6 := Lib.hid fun (W : World) h x => HFy.out W h x Y
    rw [hYg, hYn] at HF6
    have yri := hYr i (by omega)
    have yrj := hYr j (by omega)
    obtain ⟨yi, hyi⟩ : ∃ y, Y.getD i 0 = y := ⟨_, rfl⟩
    obtain ⟨yj, hyj⟩ : ∃ y, Y.getD j 0 = y := ⟨_, rfl⟩
    rw [hyi, hyj] at hYd
    rw [hyi] at yri
    rw [hyj] at yrj
    obtain ⟨yr1, yr2⟩ := yri
    obtain ⟨yr3, yr4⟩ := yrj
    have hd0 : (yj - yi == z) = true := by rw [beq_iff_eq]; exact hYd
    have hd1 : (IntKind.i64.wrap (yj - yi) == z) = true := by rw [wrap_ok (by omega) (by omega)]; exact hd0
    replace hyi := Lib.hid hyi
    replace hyj := Lib.hid hyj
    replace hYn := Lib.hid hYn
    clear hiff hrn hfl hY hYf hYg hYl hYr hYd HRe HFy hbd
    have k0 := hJ6.out.c0
    have k1 := hJ6.out.c1
    have x0 := hX6.out.c0
    have x1 := hX6.out.c1
    go_wp2_with fail
    refine (HR6.out hX6.out).mono ?_
    rintro e w7 ⟨hb, h⟩
    obtain ⟨_, sb, f, _, rfl, hr, hf⟩ := h.resolve_left (fun h => h.1 rfl)
    have hJ7 := Lib.hid (hJ6.out.below hb)
    have hX7 := Lib.hid (hX6.out.below hb)
    have hrr := Lib.hid hr
    have hff := Lib.hid hf
    clear hb hJ6 k0 k1 hX6 x0 x1 HR6 hr hf h
    have k0 := hJ7.out.c0
    have k1 := hJ7.out.c1
    go_wp2_with fail
    refine (HF6.out _ hJ7.out _ (ints_of_row hrr.out hff.out hYn.out)).mono ?_
    rintro e w8 ⟨rfl, hb⟩
    have hJ8 := Lib.hid (hJ7.out.below hb)
    have hr8 := hrr.out.of_block (hb.block _ hrr.out.lt)
    have yc1 := hr8.cell (i := i) hui
    rw [hff.out i hui, hyi.out] at yc1
    have yc2 := hr8.cell (i := j) hvj
    rw [hff.out j hvj, hyj.out] at yc2
    clear hb hJ7 k0 k1 HF6 hrr hr8 hff
    go_upto_region 15 with fail
    have S0 : w8.drew.cell? ⟨sb, j, none⟩ = some (.int .i64 yj) ∧ w8.drew.cell? ⟨sb, i, none⟩ = some (.int .i64 yi) := ⟨yc2, yc1⟩
    have hB8 := Lib.hid (Below.trans hJ8.out.b ((Below.refl w8.heap.size w8).drew.mono hJ8.out.b.size))
    clear yc1 yc2 hJ8 hX7
    go_region_held3 (fun w' => w'.cell? ⟨sb, j, none⟩ = some (.int .i64 yj) ∧ w'.cell? ⟨sb, i, none⟩ = some (.int .i64 yi))
      (first | with_reducible exact S0 | with_reducible exact keepY (by assumption) hbp)
      (first
      | (go_at_call 16
         with_reducible refine (HSa.out _).mono ?_
         rintro e wp1 ⟨he, hbp⟩
         subst he
         skip))
    have hB := hB8.out.trans (hbp.mono hB8.out.size)
    clear hbp hB8
    go_wp2
    go_ret
    exact ⟨rfl, hB⟩
set_option maxRecDepth 100000 in
set_option maxHeartbeats 8000000 in
theorem between_other (n : Int) (a : Option Addr) (m cap : Nat) (u v z : Int) (h : ¬ ((decide (m ≤ 310) && decide (n ≤ 70)) = true ∧ m ≤ 298 ∧ -4503599627370496 ≤ z ∧ z ≤ 4503599627370496)) (w : World) :
    Calls Try.prog 12 #[sysV n a m cap, .int .i64 u, .int .i64 v, .int .i64 z] w (LawPost w) := by
  have HSa := Lib.hid fun (W : World) => sanity_any W
  obtain ⟨sm, hsm⟩ : ∃ sm, (decide (m ≤ 310) && decide (n ≤ 70)) = sm := ⟨_, rfl⟩
  have HSm := Lib.hid fun (W : World) => small_any n a m cap sm (Lib.hid hsm) W
  rw [hsm] at h
  replace h := Lib.hid h
  clear hsm
  unfold sysV at *
  cases sm
  · go_enter Try.func12, Try.ntmps12
    go_wp2_with fail
    refine (HSm.out _).mono ?_
    rintro e w1 ⟨rfl, hb⟩
    have hB1 := bstep1 (Below.refl _ _) hb
    have k1 : w1.cell? ⟨w.heap.size, 1, none⟩ = some (.slice a m cap) := kept1 (by simp [go_sem]) hb
    clear hb HSm
    go_wp2_with fail
    refine (HSa.out _).mono ?_
    rintro e w4 ⟨rfl, hb⟩
    have hB := hB1.trans (hb.mono hB1.size)
    clear hb hB1 k1
    go_wp2
    go_ret
    exact ⟨rfl, hB⟩
  · by_cases h1 : m ≤ 298
    · have hn1 : ¬ (298 : Int) < (m : Int) := by omega
      by_cases h2 : -4503599627370496 ≤ z
      · have h3 : (4503599627370496 : Int) < z := by
          by_cases e : z ≤ 4503599627370496
          · exact absurd ⟨rfl, h1, h2, e⟩ h.out
          · omega
        have hn2 : ¬ z < -4503599627370496 := by omega
        go_enter Try.func12, Try.ntmps12
        go_wp2_with fail
        refine (HSm.out _).mono ?_
        rintro e w1 ⟨rfl, hb⟩
        have hB1 := bstep1 (Below.refl _ _) hb
        have k1 : w1.cell? ⟨w.heap.size, 1, none⟩ = some (.slice a m cap) := kept1 (by simp [go_sem]) hb
        clear hb HSm
        go_wp2_with fail
        refine (HSa.out _).mono ?_
        rintro e w4 ⟨rfl, hb⟩
        have hB := hB1.trans (hb.mono hB1.size)
        clear hb hB1 k1
        go_wp2
        go_ret
        exact ⟨rfl, hB⟩
      · have hn2 : z < -4503599627370496 := by omega
        go_enter Try.func12, Try.ntmps12
        go_wp2_with fail
        refine (HSm.out _).mono ?_
        rintro e w1 ⟨rfl, hb⟩
        have hB1 := bstep1 (Below.refl _ _) hb
        have k1 : w1.cell? ⟨w.heap.size, 1, none⟩ = some (.slice a m cap) := kept1 (by simp [go_sem]) hb
        clear hb HSm
        go_wp2_with fail
        refine (HSa.out _).mono ?_
        rintro e w4 ⟨rfl, hb⟩
        have hB := hB1.trans (hb.mono hB1.size)
        clear hb hB1 k1
        go_wp2
        go_ret
        exact ⟨rfl, hB⟩
    · have hn1 : (298 : Int) < (m : Int) := by omega
      go_enter Try.func12, Try.ntmps12
      go_wp2_with fail
      refine (HSm.out _).mono ?_
      rintro e w1 ⟨rfl, hb⟩
      have hB1 := bstep1 (Below.refl _ _) hb
      have k1 : w1.cell? ⟨w.heap.size, 1, none⟩ = some (.slice a m cap) := kept1 (by simp [go_sem]) hb
      clear hb HSm
      go_wp2_with fail
      refine (HSa.out _).mono ?_
      rintro e w4 ⟨rfl, hb⟩
      have hB := hB1.trans (hb.mono hB1.size)
      clear hb hB1 k1
      go_wp2
      go_ret
      exact ⟨rfl, hB⟩
/-- the law -/
theorem chainBetween_true (w : World) (n : Int) (a : Option Addr) (m cap : Nat) (_ : I64 n) (ha : a = none → cap = 0) (_ : m ≤ maxLen) (L : List Ch.Lk) (hm : L.length = m) (hL : LksAt w a L) (_ : ∀ i, i < m → I64l (L.getD i Ch.noLk)) (u : Int) (_ : I64 u) (v : Int) (_ : I64 v) (z : Int) (_ : I64 z) :
    Calls Try.prog 12 #[sysV n a m cap, .int .i64 u, .int .i64 v, .int .i64 z] w (LawPost w) := by
  by_cases h : (decide (m ≤ 310) && decide (n ≤ 70)) = true ∧ m ≤ 298 ∧ -4503599627370496 ≤ z ∧ z ≤ 4503599627370496
  · obtain ⟨h1, h2, h3, h4⟩ := h
    obtain ⟨K, hK⟩ := Ch.en_ex n L
    have hE := hK K (Nat.le_refl _)
    by_cases hb : (Ch.bound n L K u v).2 = 0 ∧ (Ch.bound n L K v u).2 = 0 ∧ u ≠ v
    · obtain ⟨g1, g2, g3⟩ := hb
      obtain ⟨K2, hK2⟩ := Ch.en_ex n (L ++ Ch.two u v z)
      exact between_ok n a m cap u v z L (Lib.hid hm) h2 h3 h4 (Lib.hid h1) (Lib.hid ha) K K2 hE (hK2 K2 (Nat.le_refl _)) _ _ (by rw [← g1]) (by rw [← g2]) g3 w (Lib.hid hL)
    · exact between_err n a m cap u v z L (Lib.hid hm) h2 h3 h4 (Lib.hid h1) K hE hb w (Lib.hid hL)
  · exact between_other n a m cap u v z h w
end Go.Proofs.Ytpddjofmiakpbaa
