/- Contracts of package plate: Walk, for a valid shop, plate and turn. -/
import Derived.Test.YtidcedilfhmllaaDoorZ26
set_option linter.unusedSimpArgs false
set_option linter.unusedVariables false
namespace Pl
theorem signs_acc {L : List Wk} {p : Int} {f : St → Option (St × Int)} (h : AccF (ways L p) f) {t : Nat} (ht : t < 8) (m : Bool) : (f ⟨p, t, m⟩).isSome = decide ((t, m) ∈ signs L p) := by
  rw [h.1]
  unfold signs
  have h16 : (t, m) ∈ all16 := mem_all16.2 ht
  apply decide_eq_decide.2
  rw [List.mem_filter]
  exact ⟨fun q => ⟨h16, decide_eq_true q⟩, fun q => of_decide_eq_true q.2⟩
end Pl
namespace Go.Proofs.YtidcedilfhmllaaDoor
open Go.RowKit

/-- what is there behind walksFrom: has, and closed -/
theorem has_after {s : Nat} {m : Int} {L : List Pl.Wk} {p : Int} (hV : Pl.VS s m L p) {w1 : World} {a : Option Addr} {n cap mb : Nat} {f : Pl.St → Option (Pl.St × Int)} (hn : n = (Pl.ways L p).length) (hS : StsAt w1 a ((Pl.ways L p).map Prod.fst)) (hM : ∃ k, AM w1 mb k f) (hA : Pl.AccF (Pl.ways L p) f) (t : Nat) (ht : t < 8) (mm : Bool) (W : World) (hb : Below w1.heap.size w1 W) :
    Calls Tryd.prog 65 #[.agg #[.slice a n cap, .map (some mb)], .agg #[.int .i64 (t : Int), .bool mm]] W fun e W' => e = .returned (.bool (decide ((t, mm) ∈ Pl.signs L p))) ∧ Below W.heap.size W W' := by
  have hB0 := Pl.ways_ok hV.m6 hV.ok ⟨hV.p0, hV.pm⟩
  have hR0 := hB0.hd
  have hRl0 := (List.getElem?_eq_some_iff.1 hR0).1
  obtain ⟨x, rfl, hx0, hx1, hx2⟩ := hS 0 (Pl.start p) (by rw [List.getElem?_map, hR0]; rfl)
  obtain ⟨kk, hM0⟩ := hM
  have ex : x.add (0 * 3) = x := by unfold Addr.add; simp
  rw [ex] at hx0
  have h := pHas_any x n cap mb kk (by omega) f p t mm ⟨⟨hV.p0, by have := hV.pm; have := hV.m6; show p < 6; omega⟩, ht⟩ W (kept1 hx0 hb) (hM0.below hb)
  rw [Pl.signs_acc hA ht mm] at h
  exact h
theorem closed_after {s : Nat} {m : Int} {L : List Pl.Wk} {p : Int} (hV : Pl.VS s m L p) {w1 : World} {a : Option Addr} {n cap mb : Nat} {f : Pl.St → Option (Pl.St × Int)} (hn : n = (Pl.ways L p).length) (hS : StsAt w1 a ((Pl.ways L p).map Prod.fst)) (hM : ∃ k, AM w1 mb k f) (hA : Pl.AccF (Pl.ways L p) f) (t : Nat) (mm : Bool) (hg : (t, mm) ∈ Pl.signs L p) (W : World) (hb : Below w1.heap.size w1 W) :
    Calls Tryd.prog 66 #[.agg #[.slice a n cap, .map (some mb)], .agg #[.int .i64 (t : Int), .bool mm]] W fun e W' => (∃ b c, e = .returned (.slice b (Pl.wlk L p (t, mm)).length c) ∧ Hid (NsAt W' b (Pl.wlk L p (t, mm)))) ∧ Below W.heap.size W W' := by
  have hB0 := Pl.ways_ok hV.m6 hV.ok ⟨hV.p0, hV.pm⟩
  have hR0 := hB0.hd
  have hRl0 := (List.getElem?_eq_some_iff.1 hR0).1
  obtain ⟨x, rfl, hx0, hx1, hx2⟩ := hS 0 (Pl.start p) (by rw [List.getElem?_map, hR0]; rfl)
  obtain ⟨kk, hM0⟩ := hM
  have hRlen : Hid ((Pl.ways L p).length ≤ 96 ∧ ∀ e ∈ Pl.ways L p, e.2.length ≤ 96) := Lib.hid ⟨Pl.bf_len hV.m6 hV.ok ⟨hV.p0, hV.pm⟩ hB0, fun e he => by
    have h1 := ways_lens he
    have h2 := Pl.bf_len hV.m6 hV.ok ⟨hV.p0, hV.pm⟩ hB0
    omega⟩
  have hKS : Hid (∀ e ∈ Pl.ways L p, KS e.1) := Lib.hid (fun e he => by
    have h := Pl.bf_in hV.ok ⟨hV.p0, hV.pm⟩ hB0 he
    have := hV.m6
    exact ⟨⟨h.1.1, by omega⟩, h.2⟩)
  refine (closed_any x n cap mb kk (by omega) f p t mm (Pl.ways L p) L _ (Lib.hid hB0) (Lib.hid hA) hKS hRlen (Pl.wlk L p (t, mm)) (Lib.hid (Pl.wlk_in hg)) W (kept1 hx0 hb) (kept1 hx1 hb) (kept1 hx2 hb) (hM0.below hb)).mono ?_
  rintro e W' ⟨⟨b, c, rfl, h1, _⟩, h2⟩
  exact ⟨⟨b, c, rfl, h1⟩, h2⟩

/-- Walk's answer -/
def WlRes (w' : World) (L : List Pl.Wk) (p : Int) (t : Nat) (mm : Bool) (b : Option Addr) (n c : Nat) (E : Int) : Prop :=
  ((t, mm) ∈ Pl.signs L p ∧ E = 0 ∧ n = (Pl.wlk L p (t, mm)).length ∧ NsAt w' b (Pl.wlk L p (t, mm))) ∨ ((t, mm) ∉ Pl.signs L p ∧ E = 5 ∧ n = 0 ∧ b = none ∧ c = 0)
/-- what Walk leaves -/
def WlPost (w : World) (L : List Pl.Wk) (p : Int) (t : Nat) (mm : Bool) (e : Ending) (w' : World) : Prop :=
  ∃ b n c E, e = .returned (.tuple #[.slice b n c, .int .i64 E]) ∧ Hid (WlRes w' L p t mm b n c E) ∧ Below w.heap.size w w'

set_option maxRecDepth 100000 in
set_option maxHeartbeats 4000000 in
theorem pWalk_ok (s : Nat) (m : Int) (a : Option Addr) (q cap : Nat) (L : List Pl.Wk) (hq : L.length = q) (p : Int) (hV : Pl.VS s m L p) (t : Nat) (ht : t < 8) (mm : Bool) (w : World) (hL : Hid (WksAt w a L)) :
    Calls Tryd.prog 34 #[.agg #[.int .i64 (s : Int), .int .i64 m, .slice a q cap], .int .i64 p, .agg #[.int .i64 (t : Int), .bool mm]] w (WlPost w L p t mm) := by
  have HC := Lib.hid (cp_ok hV (cap := cap) hq hL)
  have HW := Lib.hid (wf_ok hV (cap := cap) hq hL)
  have HI := pTurn_any (t : Int)
  rw [show Pl.ix (t : Int) 8 = true from decide_eq_true (by omega)] at HI
  replace HI := Lib.hid HI
  go_enter Tryd.func34, Tryd.ntmps34
  go_upto_region 1 with fail
  have z0 : ((w.alloc (Obj.cells #[.int .i64 (s : Int), .int .i64 m, .slice a q cap] 34)).alloc (Obj.cells #[.int .i64 (t : Int), .bool mm] 70)).cell? ⟨w.heap.size, 0, none⟩ = some (.int .i64 (s : Int)) := by simp [go_sem]
  have z1 : ((w.alloc (Obj.cells #[.int .i64 (s : Int), .int .i64 m, .slice a q cap] 34)).alloc (Obj.cells #[.int .i64 (t : Int), .bool mm] 70)).cell? ⟨w.heap.size, 1, none⟩ = some (.int .i64 m) := by simp [go_sem]
  have z2 : ((w.alloc (Obj.cells #[.int .i64 (s : Int), .int .i64 m, .slice a q cap] 34)).alloc (Obj.cells #[.int .i64 (t : Int), .bool mm] 70)).cell? ⟨w.heap.size, 2, none⟩ = some (.slice a q cap) := by simp [go_sem]
  have g0 : ((w.alloc (Obj.cells #[.int .i64 (s : Int), .int .i64 m, .slice a q cap] 34)).alloc (Obj.cells #[.int .i64 (t : Int), .bool mm] 70)).cell? ⟨w.heap.size + 1, 0, none⟩ = some (.int .i64 (t : Int)) := by simp [go_sem]
  have g1 : ((w.alloc (Obj.cells #[.int .i64 (s : Int), .int .i64 m, .slice a q cap] 34)).alloc (Obj.cells #[.int .i64 (t : Int), .bool mm] 70)).cell? ⟨w.heap.size + 1, 1, none⟩ = some (.bool mm) := by simp [go_sem]
  have hX : Below w.heap.size w ((w.alloc (Obj.cells #[.int .i64 (s : Int), .int .i64 m, .slice a q cap] 34)).alloc (Obj.cells #[.int .i64 (t : Int), .bool mm] 70)) := below_alloc (below_alloc (Below.refl _ _) _) _
  generalize (w.alloc (Obj.cells #[.int .i64 (s : Int), .int .i64 m, .slice a q cap] 34)).alloc (Obj.cells #[.int .i64 (t : Int), .bool mm] 70) = X at *
  generalize w.heap.size + 1 = gb at *
  go_wp2_with fail
  refine (HC.out _ hX).mono ?_
  rintro e w1 ⟨rfl, hb1⟩
  replace hX := hX.trans (hb1.mono hX.size)
  replace z0 := kept1 z0 hb1
  replace z1 := kept1 z1 hb1
  replace z2 := kept1 z2 hb1
  replace g0 := kept1 g0 hb1
  replace g1 := kept1 g1 hb1
  clear hb1 HC X
  go_wp2_with fail
  refine (HI.out _).mono ?_
  rintro e w1' ⟨rfl, hw1⟩
  subst hw1
  go_wp2_with fail
  refine (HW.out _ hX).mono ?_
  rintro e w2 ⟨a1, n1, c1, mb, f, rfl, hn1, hS, hM, hA, hb1⟩
  replace hX := hX.trans (hb1.mono hX.size)
  replace g0 := kept1 g0 hb1
  replace g1 := kept1 g1 hb1
  have HH := Lib.hid (has_after hV hn1 hS.out hM.out hA.out (cap := c1) t ht mm)
  have HK := Lib.hid (closed_after hV hn1 hS.out hM.out hA.out (cap := c1) t mm)
  clear hb1 HW hn1 hS hM hA z0 z1 z2
  go_upto_region 7 with fail
  have y0 : (w2.alloc (Obj.cells #[.slice a1 n1 c1, .map (some mb)] 92)).cell? ⟨w2.heap.size, 0, none⟩ = some (.slice a1 n1 c1) := by simp [go_sem]
  have y1 : (w2.alloc (Obj.cells #[.slice a1 n1 c1, .map (some mb)] 92)).cell? ⟨w2.heap.size, 1, none⟩ = some (.map (some mb)) := by simp [go_sem]
  have hb3 : Below w2.heap.size w2 (w2.alloc (Obj.cells #[.slice a1 n1 c1, .map (some mb)] 92)) := below_alloc (Below.refl _ _) _
  replace g0 := kept1 g0 hb3
  replace g1 := kept1 g1 hb3
  replace hX := hX.trans (hb3.mono hX.size)
  generalize w2.alloc (Obj.cells #[.slice a1 n1 c1, .map (some mb)] 92) = w3 at *
  generalize w2.heap.size = yb at *
  have hyl : yb ≤ w3.heap.size := Nat.le_of_lt (block_lt_of_cell y0)
  go_wp2_with fail
  refine (HH.out _ hb3).mono ?_
  rintro e w4 ⟨rfl, hb4⟩
  replace g0 := kept1 g0 hb4
  replace g1 := kept1 g1 hb4
  replace y0 := kept1 y0 hb4
  replace y1 := kept1 y1 hb4
  replace hX := hX.trans (hb4.mono hX.size)
  replace hb3 := hb3.trans (hb4.mono hyl)
  clear hb4 HH hyl
  by_cases hin : (t, mm) ∈ Pl.signs L p
  · rw [decide_eq_true hin]
    have HK2 := Lib.hid (HK.out hin _ hb3)
    clear HK hb3
    go_wp2_with fail
    refine HK2.out.mono ?_
    rintro e w5 ⟨⟨b, c, rfl, hN⟩, hb5⟩
    replace hX := hX.trans (hb5.mono hX.size)
    clear hb5 HK2
    have hfin : Hid (WlRes w5 L p t mm b (Pl.wlk L p (t, mm)).length c 0) := Lib.hid (.inl ⟨hin, rfl, rfl, hN.out⟩)
    clear hin hN
    go_wp2
    go_ret2
    exact ⟨_, _, _, _, rfl, hfin, hX⟩
  · rw [decide_eq_false hin]
    have hfin : Hid (WlRes w4 L p t mm none 0 0 5) := Lib.hid (.inr ⟨hin, rfl, rfl, rfl, rfl⟩)
    clear hin HK
    go_wp2
    go_ret2
    exact ⟨_, _, _, _, rfl, hfin, hX⟩
end Go.Proofs.YtidcedilfhmllaaDoor
