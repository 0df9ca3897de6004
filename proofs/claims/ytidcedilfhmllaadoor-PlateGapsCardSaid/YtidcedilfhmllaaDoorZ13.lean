/- What the claims of layer 3 share, part 13: several texts one behind the other. -/
import Derived.Test.YtidcedilfhmllaaDoorZ07
import Derived.Test.YtidcedilfhmllaaDoorZ12
import Derived.Test.YtidcedilfhmllaaDoorZ04
import Derived.BigQuiet
import Derived.Test.YtidcedilfhmllaaDoorZ02
import Derived.RegionIn
import Derived.LoopIn
import Derived.LoopNIn
import Derived.OwnWalkIn
import Derived.RangeFuncBound
import Derived.RangeFuncCalls
import Derived.RangeFuncGives
import Derived.RangeFuncLeaves
set_option linter.unusedSimpArgs false
set_option linter.unusedVariables false
/- Contracts of package plate: follow. -/
namespace Go.Proofs.YtidcedilfhmllaaDoor
open Go.RowKit

/-- a list of numbers, wherever it lies -/
def NsAt (w : World) (a : Option Addr) (l : List Int) : Prop := ∀ k, k < l.length → ∃ x, a = some x ∧ w.cell? (x.add k) = some (.int .i64 (l.getD k 0))
theorem NsAt.below {w W : World} {a : Option Addr} {l : List Int} (h : NsAt w a l) (hb : Below w.heap.size w W) : NsAt W a l := fun k hk => by
  obtain ⟨x, rfl, hx⟩ := h k hk
  exact ⟨x, rfl, kept1 hx hb⟩
theorem getD_in {l : List Int} {k : Nat} (h : k < l.length) : l.getD k 0 ∈ l := by
  simp [List.getD, List.getElem?_eq_getElem h]
theorem drop_at {l : List Int} {k : Nat} (h : k < l.length) : l.drop k = l.getD k 0 :: l.drop (k + 1) := by
  rw [List.drop_eq_getElem_cons h]
  simp [List.getD, List.getElem?_eq_getElem h]
/-- what follow and advance return -/
def rsV : Option Pl.St → Array Value
  | some y => #[stV y, .bool true]
  | none => #[.agg #[.int .i64 0, .int .i64 0, .bool false], .bool false]
/-- a state in a box of its own -/
def SA (W : World) (b : Nat) (y : Pl.St) : Prop := W.rowIs b 111 3 (fun i => if i = 0 then .int .i64 y.p else if i = 1 then .int .i64 (y.t : Int) else .bool y.m)
theorem SA.below {W W' : World} {b : Nat} {y : Pl.St} (h : SA W b y) (hb : Below W.heap.size W W') : SA W' b y := Below.row' hb h
theorem SA.set {W : World} {b : Nat} {y : Pl.St} (h : SA W b y) (z : Pl.St) : SA (((W.setCell ⟨b, 0, none⟩ (.int .i64 z.p)).setCell ⟨b, 1, none⟩ (.int .i64 (z.t : Int))).setCell ⟨b, 2, none⟩ (.bool z.m)) b z :=
  (((World.rowIs.set h 0 _).set 1 _).set 2 _).congr (fun i hi => by
    have : i = 0 ∨ i = 1 ∨ i = 2 := by omega
    rcases this with rfl | rfl | rfl <;> simp)

theorem sa_new (X : World) (y : Pl.St) : SA (X.alloc (Obj.cells #[.int .i64 y.p, .int .i64 (y.t : Int), .bool y.m] 111)) X.heap.size y :=
  World.rowIs_alloc X _ _ _ (fun i hi => by
    match i, hi with
    | 0, _ => rfl
    | 1, _ => rfl
    | 2, _ => rfl)
theorem far3c {Z : World} {b c i : Nat} {v u0 u1 u2 : Value} (h : Z.cell? ⟨c, i, none⟩ = some v) (hbc : c ≠ b) : (((Z.setCell ⟨b, 0, none⟩ u0).setCell ⟨b, 1, none⟩ u1).setCell ⟨b, 2, none⟩ u2).cell? ⟨c, i, none⟩ = some v := by
  simp [go_sem, h, hbc, hbc.symm]
theorem far3 {Z : World} {b c : Nat} {y : Pl.St} {u0 u1 u2 : Value} (h : SA Z c y) (hbc : c < b) : SA (((Z.setCell ⟨b, 0, none⟩ u0).setCell ⟨b, 1, none⟩ u1).setCell ⟨b, 2, none⟩ u2) c y :=
  World.rowIs.of_block h (((((Below.refl (c + 1) Z).setCell (p := ⟨b, 0, none⟩) hbc _).setCell (p := ⟨b, 1, none⟩) hbc _).setCell (p := ⟨b, 2, none⟩) hbc _).block c (Nat.lt_succ_self c))

set_option maxRecDepth 100000 in
set_option maxHeartbeats 4000000 in
theorem pFollow_any (s m : Int) (a : Option Addr) (q cap : Nat) (L : List Pl.Wk) (hq : L.length = q) (hq2 : q ≤ 16) (hok : Hid (Pl.Ok m L)) (p : Int) (x : Option Addr) (n cap2 : Nat) (l : List Int) (hn : Hid (l.length = n)) (hn2 : n ≤ 96)
    (hix : Hid (∀ k ∈ l, k ∈ Pl.stps q)) (w : World) (hL : Hid (WksAt w a L)) (hl : Hid (NsAt w x l)) :
    Calls Tryd.prog 64 #[.agg #[.int .i64 s, .int .i64 m, .slice a q cap], .int .i64 p, .slice x n cap2] w fun e w' => e = .returned (.tuple (rsV (Pl.runs (Pl.adv L) ⟨p, 0, false⟩ l))) ∧ Below w.heap.size w w' := by
  obtain ⟨R, hR⟩ : ∃ R, rsV (Pl.runs (Pl.adv L) ⟨p, 0, false⟩ l) = R := ⟨_, rfl⟩
  rw [hR]
  replace hR := Lib.hid hR
  go_enter Tryd.func64, Tryd.ntmps64
  go_wp2
  have k0 : (((w.alloc (Obj.cells #[.int .i64 s, .int .i64 m, .slice a q cap] 34)).alloc (Obj.cells #[.int .i64 0, .int .i64 0, .bool false] 111)).alloc (Obj.cells #[.int .i64 p, .int .i64 0, .bool false] 111)).cell? ⟨w.heap.size, 0, none⟩ = some (.int .i64 s) := by simp [go_sem]
  have k1 : (((w.alloc (Obj.cells #[.int .i64 s, .int .i64 m, .slice a q cap] 34)).alloc (Obj.cells #[.int .i64 0, .int .i64 0, .bool false] 111)).alloc (Obj.cells #[.int .i64 p, .int .i64 0, .bool false] 111)).cell? ⟨w.heap.size, 1, none⟩ = some (.int .i64 m) := by simp [go_sem]
  have k2 : (((w.alloc (Obj.cells #[.int .i64 s, .int .i64 m, .slice a q cap] 34)).alloc (Obj.cells #[.int .i64 0, .int .i64 0, .bool false] 111)).alloc (Obj.cells #[.int .i64 p, .int .i64 0, .bool false] 111)).cell? ⟨w.heap.size, 2, none⟩ = some (.slice a q cap) := by simp [go_sem]
  have r1 : SA (((w.alloc (Obj.cells #[.int .i64 s, .int .i64 m, .slice a q cap] 34)).alloc (Obj.cells #[.int .i64 0, .int .i64 0, .bool false] 111)).alloc (Obj.cells #[.int .i64 p, .int .i64 0, .bool false] 111)) (w.heap.size + 1) ⟨0, 0, false⟩ := by
    have h : SA ((w.alloc (Obj.cells #[.int .i64 s, .int .i64 m, .slice a q cap] 34)).alloc (Obj.cells #[.int .i64 0, .int .i64 0, .bool false] 111)) (w.heap.size + 1) ⟨0, 0, false⟩ := by
      have h := sa_new (w.alloc (Obj.cells #[.int .i64 s, .int .i64 m, .slice a q cap] 34)) ⟨0, 0, false⟩
      simpa using h
    exact h.below (below_alloc (Below.refl _ _) _)
  have r2 : SA (((w.alloc (Obj.cells #[.int .i64 s, .int .i64 m, .slice a q cap] 34)).alloc (Obj.cells #[.int .i64 0, .int .i64 0, .bool false] 111)).alloc (Obj.cells #[.int .i64 p, .int .i64 0, .bool false] 111)) (w.heap.size + 1 + 1) ⟨p, 0, false⟩ := by
    have h := sa_new ((w.alloc (Obj.cells #[.int .i64 s, .int .i64 m, .slice a q cap] 34)).alloc (Obj.cells #[.int .i64 0, .int .i64 0, .bool false] 111)) ⟨p, 0, false⟩
    simpa using h
  have hbw : Below w.heap.size w (((w.alloc (Obj.cells #[.int .i64 s, .int .i64 m, .slice a q cap] 34)).alloc (Obj.cells #[.int .i64 0, .int .i64 0, .bool false] 111)).alloc (Obj.cells #[.int .i64 p, .int .i64 0, .bool false] 111)) := below_alloc (below_alloc (below_alloc (Below.refl _ _) _) _) _
  generalize ((w.alloc (Obj.cells #[.int .i64 s, .int .i64 m, .slice a q cap] 34)).alloc (Obj.cells #[.int .i64 0, .int .i64 0, .bool false] 111)).alloc (Obj.cells #[.int .i64 p, .int .i64 0, .bool false] 111) = X at *
  go_loopw [17] (fun i wr => ∃ (k : Nat) (pp : Int) (t : Nat) (mm : Bool), k ≤ n ∧ i = .int .i64 k ∧ t < 8 ∧ wr.cell? ⟨w.heap.size, 0, none⟩ = some (.int .i64 s) ∧ wr.cell? ⟨w.heap.size, 1, none⟩ = some (.int .i64 m) ∧ wr.cell? ⟨w.heap.size, 2, none⟩ = some (.slice a q cap) ∧ SA wr (w.heap.size + 1) ⟨0, 0, false⟩ ∧ SA wr (w.heap.size + 1 + 1) ⟨pp, t, mm⟩ ∧ Below w.heap.size w wr ∧ Hid (rsV (Pl.runs (Pl.adv L) ⟨pp, t, mm⟩ (l.drop k)) = R)) (fun i _ => n - (RowKit.intOf i).toNat)
  case atStart => exact ⟨0, p, 0, false, Nat.zero_le _, rfl, by omega, k0, k1, k2, r1, r2, hbw, hR⟩
  case round =>
    clear hbw k0 k1 k2 r1 r2 hR
    clear X
    obtain ⟨k, pp, t, mm, hk, rfl, ht, k0, k1, k2, r1, r2, hb, hfo⟩ := hrel
    have e0 : wr.cell? ⟨w.heap.size + 1 + 1, 0, none⟩ = some (.int .i64 pp) := World.rowIs.cell r2 (i := 0) (by omega)
    have e1 : wr.cell? ⟨w.heap.size + 1 + 1, 1, none⟩ = some (.int .i64 (t : Int)) := World.rowIs.cell r2 (i := 1) (by omega)
    have e2 : wr.cell? ⟨w.heap.size + 1 + 1, 2, none⟩ = some (.bool mm) := World.rowIs.cell r2 (i := 2) (by omega)
    by_cases hlt : k < n
    · have hkl : k < l.length := by have := hn.out; omega
      obtain ⟨x', rfl, hcx⟩ := hl.out k hkl
      have hc0 := (hb.cell (block_lt_of_cell hcx)).trans hcx
      have hin := hix.out (l.getD k 0) (getD_in hkl)
      have hst : Hid (R = rsV ((Pl.adv L ⟨pp, t, mm⟩ (l.getD k 0)).bind fun b => Pl.runs (Pl.adv L) b (l.drop (k + 1)))) := Lib.hid (by
        rw [← hfo.out, drop_at hkl]
        rfl)
      obtain ⟨g, hg⟩ : ∃ g, l.getD k 0 = g := ⟨_, rfl⟩
      rw [hg] at hc0 hin hst
      have hin2 := Pl.mem_stps.1 hin
      have HA := advance_any s m a q cap L hq hq2 hok pp t mm ht g hin2.1 hin2.2 wr (Lib.hid (hL.out.below hb))
      have hai := fun z => Pl.adv_in hok.out (s := ⟨pp, t, mm⟩) (y := z) (k := g) (by rw [hq]; exact hin) ht
      clear hcx hg hfo hin hin2
      have hi5 : (k : Int) < (n : Int) := by omega
      have hn5 : (n : Int) ≤ 96 := by omega
      cases ha : Pl.adv L ⟨pp, t, mm⟩ g with
      | none =>
        rw [ha] at HA hst
        have hst2 : R = #[.agg #[.int .i64 0, .int .i64 0, .bool false], .bool false] := by rw [hst.out]; rfl
        subst hst2
        clear hst hai ha
        replace HA := Lib.hid HA
        go_wp2_with fail
        refine HA.out.mono ?_
        rintro e w2 ⟨rfl, hb2⟩
        have bZ : Below w.heap.size w (w2.alloc (Obj.cells #[.int .i64 0, .int .i64 0, .bool false] 111)) := below_alloc (hb.trans (hb2.mono hb.size)) _
        have rZ1 : SA (w2.alloc (Obj.cells #[.int .i64 0, .int .i64 0, .bool false] 111)) (w.heap.size + 1) ⟨0, 0, false⟩ := r1.below (below_alloc hb2 _)
        go_upto_region 7 with fail
        generalize w2.alloc (Obj.cells #[.int .i64 0, .int .i64 0, .bool false] 111) = Z at *
        have t0 : Z.cell? ⟨w.heap.size + 1, 0, none⟩ = some (.int .i64 0) := World.rowIs.cell rZ1 (i := 0) (by omega)
        have t1 : Z.cell? ⟨w.heap.size + 1, 1, none⟩ = some (.int .i64 0) := World.rowIs.cell rZ1 (i := 1) (by omega)
        have t2 : Z.cell? ⟨w.heap.size + 1, 2, none⟩ = some (.bool false) := World.rowIs.cell rZ1 (i := 2) (by omega)
        have z0 := World.rowIs.frozen rZ1 0
        have z1 := World.rowIs.frozen rZ1 1
        have z2 := World.rowIs.frozen rZ1 2
        have hS : SA (((Z.setCell ⟨w.heap.size + 1, 0, none⟩ (.int .i64 0)).setCell ⟨w.heap.size + 1, 1, none⟩ (.int .i64 0)).setCell ⟨w.heap.size + 1, 2, none⟩ (.bool false)) (w.heap.size + 1) ⟨0, 0, false⟩ := SA.set rZ1 ⟨0, 0, false⟩
        have hq0 : (((Z.setCell ⟨w.heap.size + 1, 0, none⟩ (.int .i64 0)).setCell ⟨w.heap.size + 1, 1, none⟩ (.int .i64 0)).setCell ⟨w.heap.size + 1, 2, none⟩ (.bool false)).cell? ⟨w.heap.size + 1, 0, none⟩ = some (.int .i64 0) := World.rowIs.cell hS (i := 0) (by omega)
        have hq1 : (((Z.setCell ⟨w.heap.size + 1, 0, none⟩ (.int .i64 0)).setCell ⟨w.heap.size + 1, 1, none⟩ (.int .i64 0)).setCell ⟨w.heap.size + 1, 2, none⟩ (.bool false)).cell? ⟨w.heap.size + 1, 1, none⟩ = some (.int .i64 0) := World.rowIs.cell hS (i := 1) (by omega)
        have hq2 : (((Z.setCell ⟨w.heap.size + 1, 0, none⟩ (.int .i64 0)).setCell ⟨w.heap.size + 1, 1, none⟩ (.int .i64 0)).setCell ⟨w.heap.size + 1, 2, none⟩ (.bool false)).cell? ⟨w.heap.size + 1, 2, none⟩ = some (.bool false) := World.rowIs.cell hS (i := 2) (by omega)
        have hZ : Below w.heap.size w (((Z.setCell ⟨w.heap.size + 1, 0, none⟩ (.int .i64 0)).setCell ⟨w.heap.size + 1, 1, none⟩ (.int .i64 0)).setCell ⟨w.heap.size + 1, 2, none⟩ (.bool false)) := ((bZ.setCell (p := ⟨w.heap.size + 1, 0, none⟩) (by show w.heap.size ≤ w.heap.size + 1; omega) _).setCell (p := ⟨w.heap.size + 1, 1, none⟩) (by show w.heap.size ≤ w.heap.size + 1; omega) _).setCell (p := ⟨w.heap.size + 1, 2, none⟩) (by show w.heap.size ≤ w.heap.size + 1; omega) _
        go_wp2
        generalize ((Z.setCell ⟨w.heap.size + 1, 0, none⟩ (.int .i64 0)).setCell ⟨w.heap.size + 1, 1, none⟩ (.int .i64 0)).setCell ⟨w.heap.size + 1, 2, none⟩ (.bool false) = V at *
        refine bodyPost_ret (v := .tuple #[.agg #[.int .i64 0, .int .i64 0, .bool false], .bool false]) (by simp [results, Tryd.results64, go_sem, hq0, hq1, hq2]) rfl ?_
        exact ⟨rfl, hZ⟩
      | some Y =>
        obtain ⟨p2, t2, m2⟩ := Y
        have ht2 : t2 < 8 := (hai _ ha).2
        rw [ha] at HA hst
        have hst2 : Hid (rsV (Pl.runs (Pl.adv L) ⟨p2, t2, m2⟩ (l.drop (k + 1))) = R) := Lib.hid (by rw [hst.out]; rfl)
        clear hst hai ha
        simp only [stV] at HA
        replace HA := Lib.hid HA
        go_wp2_with fail
        refine HA.out.mono ?_
        rintro e w2 ⟨rfl, hb2⟩
        have bZ : Below w.heap.size w (w2.alloc (Obj.cells #[.int .i64 p2, .int .i64 (t2 : Int), .bool m2] 111)) := below_alloc (hb.trans (hb2.mono hb.size)) _
        have hbZ : Below wr.heap.size wr (w2.alloc (Obj.cells #[.int .i64 p2, .int .i64 (t2 : Int), .bool m2] 111)) := below_alloc hb2 _
        have rS : SA (w2.alloc (Obj.cells #[.int .i64 p2, .int .i64 (t2 : Int), .bool m2] 111)) w2.heap.size ⟨p2, t2, m2⟩ := sa_new w2 ⟨p2, t2, m2⟩
        go_upto_region 8 with fail
        generalize w2.alloc (Obj.cells #[.int .i64 p2, .int .i64 (t2 : Int), .bool m2] 111) = Z at *
        generalize w2.heap.size = sb at *
        replace k0 := kept1 k0 hbZ
        replace k1 := kept1 k1 hbZ
        replace k2 := kept1 k2 hbZ
        replace r1 := r1.below hbZ
        replace r2 := r2.below hbZ
        clear e0 e1 e2
        have s0 : Z.cell? ⟨sb, 0, none⟩ = some (.int .i64 p2) := World.rowIs.cell rS (i := 0) (by omega)
        have s1 : Z.cell? ⟨sb, 1, none⟩ = some (.int .i64 (t2 : Int)) := World.rowIs.cell rS (i := 1) (by omega)
        have s2 : Z.cell? ⟨sb, 2, none⟩ = some (.bool m2) := World.rowIs.cell rS (i := 2) (by omega)
        have t0 : Z.cell? ⟨w.heap.size + 1 + 1, 0, none⟩ = some (.int .i64 pp) := World.rowIs.cell r2 (i := 0) (by omega)
        have t1 : Z.cell? ⟨w.heap.size + 1 + 1, 1, none⟩ = some (.int .i64 (t : Int)) := World.rowIs.cell r2 (i := 1) (by omega)
        have t2' : Z.cell? ⟨w.heap.size + 1 + 1, 2, none⟩ = some (.bool mm) := World.rowIs.cell r2 (i := 2) (by omega)
        have z0 := World.rowIs.frozen r2 0
        have z1 := World.rowIs.frozen r2 1
        have z2 := World.rowIs.frozen r2 2
        have hS : SA (((Z.setCell ⟨w.heap.size + 1 + 1, 0, none⟩ (.int .i64 p2)).setCell ⟨w.heap.size + 1 + 1, 1, none⟩ (.int .i64 (t2 : Int))).setCell ⟨w.heap.size + 1 + 1, 2, none⟩ (.bool m2)) (w.heap.size + 1 + 1) ⟨p2, t2, m2⟩ := SA.set r2 ⟨p2, t2, m2⟩
        have hS1 : SA (((Z.setCell ⟨w.heap.size + 1 + 1, 0, none⟩ (.int .i64 p2)).setCell ⟨w.heap.size + 1 + 1, 1, none⟩ (.int .i64 (t2 : Int))).setCell ⟨w.heap.size + 1 + 1, 2, none⟩ (.bool m2)) (w.heap.size + 1) ⟨0, 0, false⟩ := far3 r1 (by omega)
        have hk0 : (((Z.setCell ⟨w.heap.size + 1 + 1, 0, none⟩ (.int .i64 p2)).setCell ⟨w.heap.size + 1 + 1, 1, none⟩ (.int .i64 (t2 : Int))).setCell ⟨w.heap.size + 1 + 1, 2, none⟩ (.bool m2)).cell? ⟨w.heap.size, 0, none⟩ = some (.int .i64 s) := far3c k0 (by omega)
        have hk1 : (((Z.setCell ⟨w.heap.size + 1 + 1, 0, none⟩ (.int .i64 p2)).setCell ⟨w.heap.size + 1 + 1, 1, none⟩ (.int .i64 (t2 : Int))).setCell ⟨w.heap.size + 1 + 1, 2, none⟩ (.bool m2)).cell? ⟨w.heap.size, 1, none⟩ = some (.int .i64 m) := far3c k1 (by omega)
        have hk2 : (((Z.setCell ⟨w.heap.size + 1 + 1, 0, none⟩ (.int .i64 p2)).setCell ⟨w.heap.size + 1 + 1, 1, none⟩ (.int .i64 (t2 : Int))).setCell ⟨w.heap.size + 1 + 1, 2, none⟩ (.bool m2)).cell? ⟨w.heap.size, 2, none⟩ = some (.slice a q cap) := far3c k2 (by omega)
        have hZ : Below w.heap.size w (((Z.setCell ⟨w.heap.size + 1 + 1, 0, none⟩ (.int .i64 p2)).setCell ⟨w.heap.size + 1 + 1, 1, none⟩ (.int .i64 (t2 : Int))).setCell ⟨w.heap.size + 1 + 1, 2, none⟩ (.bool m2)) := ((bZ.setCell (p := ⟨w.heap.size + 1 + 1, 0, none⟩) (by show w.heap.size ≤ w.heap.size + 1 + 1; omega) _).setCell (p := ⟨w.heap.size + 1 + 1, 1, none⟩) (by show w.heap.size ≤ w.heap.size + 1 + 1; omega) _).setCell (p := ⟨w.heap.size + 1 + 1, 2, none⟩) (by show w.heap.size ≤ w.heap.size + 1 + 1; omega) _
        go_wp2
        go_roundw
        case rel => exact ⟨k + 1, p2, t2, m2, by omega, by go_num, ht2, hk0, hk1, hk2, hS1, hS, hZ, hst2⟩
        case measure => first | (simp [RowKit.intOf]; done) | (simp [RowKit.intOf]; omega) | omega
    · obtain rfl : k = n := by omega
      have hi5 : ¬ (k : Int) < (k : Int) := by omega
      have hst2 : R = #[.agg #[.int .i64 pp, .int .i64 (t : Int), .bool mm], .bool true] := by rw [← hfo.out, List.drop_eq_nil_of_le (by have := hn.out; omega)]; rfl
      subst hst2
      clear hfo
      have t0 : wr.cell? ⟨w.heap.size + 1, 0, none⟩ = some (.int .i64 0) := World.rowIs.cell r1 (i := 0) (by omega)
      have t1 : wr.cell? ⟨w.heap.size + 1, 1, none⟩ = some (.int .i64 0) := World.rowIs.cell r1 (i := 1) (by omega)
      have t2 : wr.cell? ⟨w.heap.size + 1, 2, none⟩ = some (.bool false) := World.rowIs.cell r1 (i := 2) (by omega)
      have z0 := World.rowIs.frozen r1 0
      have z1 := World.rowIs.frozen r1 1
      have z2 := World.rowIs.frozen r1 2
      have hS : SA (((wr.setCell ⟨w.heap.size + 1, 0, none⟩ (.int .i64 pp)).setCell ⟨w.heap.size + 1, 1, none⟩ (.int .i64 (t : Int))).setCell ⟨w.heap.size + 1, 2, none⟩ (.bool mm)) (w.heap.size + 1) ⟨pp, t, mm⟩ := SA.set r1 ⟨pp, t, mm⟩
      have hq0 : (((wr.setCell ⟨w.heap.size + 1, 0, none⟩ (.int .i64 pp)).setCell ⟨w.heap.size + 1, 1, none⟩ (.int .i64 (t : Int))).setCell ⟨w.heap.size + 1, 2, none⟩ (.bool mm)).cell? ⟨w.heap.size + 1, 0, none⟩ = some (.int .i64 pp) := World.rowIs.cell hS (i := 0) (by omega)
      have hq1 : (((wr.setCell ⟨w.heap.size + 1, 0, none⟩ (.int .i64 pp)).setCell ⟨w.heap.size + 1, 1, none⟩ (.int .i64 (t : Int))).setCell ⟨w.heap.size + 1, 2, none⟩ (.bool mm)).cell? ⟨w.heap.size + 1, 1, none⟩ = some (.int .i64 (t : Int)) := World.rowIs.cell hS (i := 1) (by omega)
      have hq2 : (((wr.setCell ⟨w.heap.size + 1, 0, none⟩ (.int .i64 pp)).setCell ⟨w.heap.size + 1, 1, none⟩ (.int .i64 (t : Int))).setCell ⟨w.heap.size + 1, 2, none⟩ (.bool mm)).cell? ⟨w.heap.size + 1, 2, none⟩ = some (.bool mm) := World.rowIs.cell hS (i := 2) (by omega)
      have hZ : Below w.heap.size w (((wr.setCell ⟨w.heap.size + 1, 0, none⟩ (.int .i64 pp)).setCell ⟨w.heap.size + 1, 1, none⟩ (.int .i64 (t : Int))).setCell ⟨w.heap.size + 1, 2, none⟩ (.bool mm)) := ((hb.setCell (p := ⟨w.heap.size + 1, 0, none⟩) (by show w.heap.size ≤ w.heap.size + 1; omega) _).setCell (p := ⟨w.heap.size + 1, 1, none⟩) (by show w.heap.size ≤ w.heap.size + 1; omega) _).setCell (p := ⟨w.heap.size + 1, 2, none⟩) (by show w.heap.size ≤ w.heap.size + 1; omega) _
      go_wp2
      generalize ((wr.setCell ⟨w.heap.size + 1, 0, none⟩ (.int .i64 pp)).setCell ⟨w.heap.size + 1, 1, none⟩ (.int .i64 (t : Int))).setCell ⟨w.heap.size + 1, 2, none⟩ (.bool mm) = V at *
      refine bodyPost_ret (v := .tuple #[.agg #[.int .i64 pp, .int .i64 (t : Int), .bool mm], .bool true]) (by simp [results, Tryd.results64, go_sem, hq0, hq1, hq2]) rfl ?_
      exact ⟨rfl, hZ⟩
end Go.Proofs.YtidcedilfhmllaaDoor

/- Contracts of the specification: SameInts. -/
namespace Go.Proofs.YtidcedilfhmllaaDoor
open Go.RowKit

set_option maxHeartbeats 400000 in
theorem pSameInts_len (a b : Option Addr) (p q c d : Nat) (h : ((p : Int) != (q : Int)) = true) (w : World) :
    Calls Tryd.prog 13 #[.slice a p c, .slice b q d] w fun e w' => e = .returned (.bool false) ∧ Below w.heap.size w w' := by
  go_enter Tryd.func13, Tryd.ntmps13
  go_wp2
  go_ret
  exact ⟨rfl, (by repeat (first | with_reducible exact Below.refl _ _ | with_reducible assumption | refine below_drewN ?_ _ | refine Below.drew ?_ | refine Below.alloc ?_ (by first | (simp; done) | (simp; omega) | omega) _ | refine Below.setCell ?_ (by first | (simp; done) | (simp; omega) | omega) _ | refine Below.trans ?_ (Below.mono (by assumption) (by first | (simp; done) | (simp; omega) | omega))))⟩

set_option maxRecDepth 100000 in
set_option maxHeartbeats 1000000 in
theorem pSameInts_loop (a b : Option Addr) (p c d : Nat) (l1 l2 : List Int) (h1 : Hid (l1.length = p)) (h2 : Hid (l2.length = p)) (hp : p ≤ 1000000) (R : Bool) (hR : Hid (decide (l1 = l2) = R)) (w : World) (hl1 : Hid (NsAt w a l1)) (hl2 : Hid (NsAt w b l2)) :
    Calls Tryd.prog 13 #[.slice a p c, .slice b p d] w fun e w' => e = .returned (.bool R) ∧ Below w.heap.size w w' := by
  go_enter Tryd.func13, Tryd.ntmps13
  go_wp2
  go_loopw [5] (fun i wr => ∃ k : Nat, k ≤ p ∧ i = .int .i64 k ∧ Below w.heap.size w wr ∧ Hid (∀ j, j < k → l1.getD j 0 = l2.getD j 0)) (fun i _ => p - (RowKit.intOf i).toNat)
  case atStart => exact ⟨0, Nat.zero_le _, rfl, Below.refl _ _, Lib.hid (fun j hj => by omega)⟩
  case round =>
    obtain ⟨k, hk, rfl, hb, hall⟩ := hrel
    by_cases hlt : k < p
    · obtain ⟨x, rfl, hx⟩ := hl1.out k (by have := h1.out; omega)
      obtain ⟨y, rfl, hy⟩ := hl2.out k (by have := h2.out; omega)
      have hx2 := (hb.cell (block_lt_of_cell hx)).trans hx
      have hy2 := (hb.cell (block_lt_of_cell hy)).trans hy
      obtain ⟨u, hu⟩ : ∃ u, l1.getD k 0 = u := ⟨_, rfl⟩
      obtain ⟨v, hv⟩ : ∃ v, l2.getD k 0 = v := ⟨_, rfl⟩
      rw [hu] at hx2
      rw [hv] at hy2
      replace hu := Lib.hid hu
      replace hv := Lib.hid hv
      clear hx hy
      have hi5 : (k : Int) < (p : Int) := by omega
      by_cases huv : u = v
      · subst huv
        go_wp2_with fail
        try go_region
        go_wp2
        go_roundw
        case rel => exact ⟨k + 1, by omega, by go_num, (by repeat (first | with_reducible exact Below.refl _ _ | with_reducible assumption | refine below_drewN ?_ _ | refine Below.drew ?_ | refine Below.alloc ?_ (by first | (simp; done) | (simp; omega) | omega) _ | refine Below.setCell ?_ (by first | (simp; done) | (simp; omega) | omega) _ | refine Below.trans ?_ (Below.mono (by assumption) (by first | (simp; done) | (simp; omega) | omega)))), Lib.hid (fun j hj => by
          rcases Nat.lt_or_ge j k with h | h
          · exact hall.out j h
          · obtain rfl : j = k := by omega
            rw [hu.out, hv.out])⟩
        case measure => first | (simp [RowKit.intOf]; done) | (simp [RowKit.intOf]; omega) | omega
      · have hne : (u != v) = true := by rw [bne_iff_ne]; exact huv
        have hR2 : Hid (R = false) := Lib.hid (by
          rw [← hR.out, decide_eq_false]
          intro e
          exact huv (by rw [← hu.out, ← hv.out, e]))
        clear hall
        go_wp2_with fail
        try go_region
        go_wp2
        go_ret
        exact ⟨by rw [hR2.out]; rfl, (by repeat (first | with_reducible exact Below.refl _ _ | with_reducible assumption | refine below_drewN ?_ _ | refine Below.drew ?_ | refine Below.alloc ?_ (by first | (simp; done) | (simp; omega) | omega) _ | refine Below.setCell ?_ (by first | (simp; done) | (simp; omega) | omega) _ | refine Below.trans ?_ (Below.mono (by assumption) (by first | (simp; done) | (simp; omega) | omega))))⟩
    · obtain rfl : k = p := by omega
      have hi5 : ¬ (k : Int) < (k : Int) := by omega
      have hR2 : Hid (R = true) := Lib.hid (by
        rw [← hR.out, decide_eq_true]
        refine List.ext_getElem (h1.out.trans h2.out.symm) (fun j hj1 hj2 => ?_)
        have := hall.out j (by have := h1.out; omega)
        simp only [List.getD, List.getElem?_eq_getElem hj1, List.getElem?_eq_getElem hj2, Option.getD_some] at this
        exact this)
      clear hall
      go_wp2
      go_ret
      exact ⟨by rw [hR2.out]; rfl, (by repeat (first | with_reducible exact Below.refl _ _ | with_reducible assumption | refine below_drewN ?_ _ | refine Below.drew ?_ | refine Below.alloc ?_ (by first | (simp; done) | (simp; omega) | omega) _ | refine Below.setCell ?_ (by first | (simp; done) | (simp; omega) | omega) _ | refine Below.trans ?_ (Below.mono (by assumption) (by first | (simp; done) | (simp; omega) | omega))))⟩

theorem pSameInts_any (a b : Option Addr) (c d : Nat) (l1 l2 : List Int) (hp : l1.length ≤ 1000000) (w : World) (hl1 : NsAt w a l1) (hl2 : NsAt w b l2) :
    Calls Tryd.prog 13 #[.slice a l1.length c, .slice b l2.length d] w fun e w' => e = .returned (.bool (decide (l1 = l2))) ∧ Below w.heap.size w w' := by
  by_cases h : l1.length = l2.length
  · have := pSameInts_loop a b l1.length c d l1 l2 (Lib.hid rfl) (Lib.hid h.symm) hp _ (Lib.hid rfl) w (Lib.hid hl1) (Lib.hid hl2)
    rw [← h]
    exact this
  · rw [decide_eq_false (fun e => h (by rw [e]))]
    exact pSameInts_len a b _ _ c d (by rw [bne_iff_ne]; omega) w

end Go.Proofs.YtidcedilfhmllaaDoor

/- Contracts of package plate: checkSteps. -/
namespace Pl
def okS (q : Nat) (g : Int) : Bool := ix (wof g) q
/-- checkSteps -/
def stc (q : Nat) (LS : List (List Int)) : Int := if LS.any (fun l => decide (96 < l.length)) then 2 else if LS.all (fun l => l.all (okS q)) then 0 else 1
end Pl
namespace Go.Proofs.YtidcedilfhmllaaDoor
open Go.RowKit

/-- lists of numbers, in a row -/
def LnAt (w : World) (a : Option Addr) (LS : List (List Int)) : Prop := ∀ k, k < LS.length → ∃ x b n c, a = some x ∧ w.cell? (x.add k) = some (.slice b n c) ∧ (LS.getD k []).length = n ∧ NsAt w b (LS.getD k [])
theorem LnAt.below {w W : World} {a : Option Addr} {l : List (List Int)} (h : LnAt w a l) (hb : Below w.heap.size w W) : LnAt W a l := fun k hk => by
  obtain ⟨x, b, n, c, rfl, hx, h1, h2⟩ := h k hk
  exact ⟨x, b, n, c, rfl, kept1 hx hb, h1, h2.below hb⟩
theorem drop_ats {l : List (List Int)} {k : Nat} (h : k < l.length) : l.drop k = l.getD k [] :: l.drop (k + 1) := by
  rw [List.drop_eq_getElem_cons h]
  simp [List.getD, List.getElem?_eq_getElem h]

set_option maxRecDepth 100000 in
set_option maxHeartbeats 4000000 in
theorem pSteps_any (s m : Int) (a : Option Addr) (q cap : Nat) (hq2 : q ≤ 16) (x : Option Addr) (n c : Nat) (LS : List (List Int)) (hn : Hid (LS.length = n)) (hn2 : n ≤ 4096)
    (hi : Hid (∀ l ∈ LS, ∀ g ∈ l, -9223372036854775808 ≤ g ∧ g ≤ 9223372036854775807)) (w : World) (hl : Hid (LnAt w x LS)) :
    Calls Tryd.prog 63 #[.agg #[.int .i64 s, .int .i64 m, .slice a q cap], .slice x n c] w fun e w' => e = .returned (.int .i64 (Pl.stc q LS)) ∧ Below w.heap.size w w' := by
  obtain ⟨R, hR⟩ : ∃ R, Pl.stc q LS = R := ⟨_, rfl⟩
  rw [hR]
  replace hR : Hid (R = if (LS.drop 0).any (fun l => decide (96 < l.length)) then 2 else if LS.all (fun l => l.all (Pl.okS q)) then 0 else 1) := Lib.hid hR.symm
  go_enter Tryd.func63, Tryd.ntmps63
  go_wp2
  have k2 : (w.alloc (Obj.cells #[.int .i64 s, .int .i64 m, .slice a q cap] 34)).cell? ⟨w.heap.size, 2, none⟩ = some (.slice a q cap) := by simp [go_sem]
  have hbw : Below w.heap.size w (w.alloc (Obj.cells #[.int .i64 s, .int .i64 m, .slice a q cap] 34)) := below_alloc (Below.refl _ _) _
  generalize w.alloc (Obj.cells #[.int .i64 s, .int .i64 m, .slice a q cap] 34) = X at *
  have hn5 : (n : Int) ≤ 4096 := by omega
  go_loopw [13] (fun i wr => ∃ k : Nat, k ≤ n ∧ i = .int .i64 k ∧ wr.cell? ⟨w.heap.size, 2, none⟩ = some (.slice a q cap) ∧ Below w.heap.size w wr ∧ Hid (∀ i, i < k → (LS.getD i []).length ≤ 96) ∧ Hid (R = if (LS.drop k).any (fun l => decide (96 < l.length)) then 2 else if LS.all (fun l => l.all (Pl.okS q)) then 0 else 1)) (fun i _ => n - (RowKit.intOf i).toNat)
  case atStart => exact ⟨0, Nat.zero_le _, rfl, k2, hbw, Lib.hid (fun i hi => by omega), hR⟩
  case round =>
    clear hbw k2 hR
    clear X
    obtain ⟨k, hk, rfl, k2, hb, hsh, hfo⟩ := hrel
    by_cases hlt : k < n
    · have hkl : k < LS.length := by have := hn.out; omega
      obtain ⟨x', b', n', c', rfl, hcx, hnl, _⟩ := hl.out k hkl
      have hc0 := (hb.cell (block_lt_of_cell hcx)).trans hcx
      have hst := hfo.out
      rw [drop_ats hkl, List.any_cons, hnl] at hst
      replace hst := Lib.hid hst
      have hnl2 := Lib.hid hnl
      clear hcx hnl hfo
      have hi5 : (k : Int) < (n : Int) := by omega
      by_cases h96 : 96 < n'
      · have h97 : (96 : Int) < (n' : Int) := by omega
        have hst2 : R = 2 := by rw [hst.out]; simp [h96]
        clear hst
        subst hst2
        go_wp2
        go_ret
        exact ⟨rfl, hb⟩
      · have h97 : ¬ (96 : Int) < (n' : Int) := by omega
        have hsh2 : Hid (∀ i, i < k + 1 → (LS.getD i []).length ≤ 96) := Lib.hid (fun i hi => by
          by_cases hik : i < k
          · exact hsh.out i hik
          · obtain rfl : i = k := by omega
            have := hnl2.out
            omega)
        clear hnl2 hsh
        have hst2 : Hid (R = if (LS.drop (k + 1)).any (fun l => decide (96 < l.length)) then 2 else if LS.all (fun l => l.all (Pl.okS q)) then 0 else 1) := Lib.hid (by rw [hst.out]; simp [h96])
        clear hst
        go_wp2
        go_roundw
        case rel => exact ⟨k + 1, by omega, by go_num, k2, hb, hsh2, hst2⟩
        case measure => first | (simp [RowKit.intOf]; done) | (simp [RowKit.intOf]; omega) | omega
    · obtain rfl : k = n := by omega
      have hi5 : ¬ (k : Int) < (k : Int) := by omega
      have hst : Hid (R = if (LS.drop 0).all (fun l => l.all (Pl.okS q)) then 0 else 1) := Lib.hid (by
        rw [hfo.out, List.drop_eq_nil_of_le (by have := hn.out; omega)]
        simp)
      clear hfo
      generalize wr = X0 at *
      clear wr
      go_wp2
      go_loopw [23] (fun i wr => ∃ j : Nat, j ≤ k ∧ i = .int .i64 j ∧ wr.cell? ⟨w.heap.size, 2, none⟩ = some (.slice a q cap) ∧ Below w.heap.size w wr ∧ Hid (R = if (LS.drop j).all (fun l => l.all (Pl.okS q)) then 0 else 1)) (fun i _ => k - (RowKit.intOf i).toNat)
      case atStart => exact ⟨0, Nat.zero_le _, rfl, k2, hb, hst⟩
      case round =>
        clear k2 hb hst hi5
        clear X0
        obtain ⟨j, hj, rfl, k2, hb, hfo⟩ := hrel
        by_cases hlt : j < k
        · have hkl : j < LS.length := by have := hn.out; omega
          obtain ⟨x', b', n', c', rfl, hcx, hnl, hns⟩ := hl.out j hkl
          have hc0 := (hb.cell (block_lt_of_cell hcx)).trans hcx
          have hst := hfo.out
          rw [drop_ats hkl, List.all_cons] at hst
          have hil := hi.out (LS.getD j []) (by simp [List.getD, List.getElem?_eq_getElem hkl])
          obtain ⟨l, hl5⟩ : ∃ l, LS.getD j [] = l := ⟨_, rfl⟩
          rw [hl5] at hst hnl hns hil
          have hn96 : n' ≤ 96 := by have := hsh.out j hlt; rw [hl5] at this; omega
          replace hil := Lib.hid hil
          replace hns := Lib.hid hns
          replace hnl := Lib.hid hnl
          have hst0 : Hid (R = if ((l.drop 0).all (Pl.okS q) && (LS.drop (j + 1)).all (fun l => l.all (Pl.okS q))) then 0 else 1) := Lib.hid hst
          clear hst hfo hcx hl5
          have hi5 : (j : Int) < (k : Int) := by omega
          go_wp2
          generalize wr = X1 at *
          clear wr
          go_loopw [29] (fun i wr => ∃ t : Nat, t ≤ n' ∧ i = .int .i64 t ∧ wr.cell? ⟨w.heap.size, 2, none⟩ = some (.slice a q cap) ∧ Below w.heap.size w wr ∧ Hid (R = if ((l.drop t).all (Pl.okS q) && (LS.drop (j + 1)).all (fun l => l.all (Pl.okS q))) then 0 else 1)) (fun i _ => n' - (RowKit.intOf i).toNat)
          case atStart => exact ⟨0, Nat.zero_le _, rfl, k2, hb, hst0⟩
          case round =>
            clear k2 hb hst0 hi5 hc0
            clear X1
            obtain ⟨t, ht, rfl, k2, hb, hfo⟩ := hrel
            by_cases hlt : t < n'
            · have htl : t < l.length := by have := hnl.out; omega
              obtain ⟨y', rfl, hcx⟩ := hns.out t htl
              have hc0 := (hb.cell (block_lt_of_cell hcx)).trans hcx
              have hgi := hil.out _ (getD_in htl)
              have hst := hfo.out
              rw [drop_at htl, List.all_cons] at hst
              obtain ⟨g, hg⟩ : ∃ g, l.getD t 0 = g := ⟨_, rfl⟩
              rw [hg] at hst hgi hc0
              have HW := Lib.hid (pWorkingOf_any g hgi.1 hgi.2)
              have HX := pIndex_any (Pl.wof g) (q : Int)
              have hi5 : (t : Int) < (n' : Int) := by omega
              have hn'5 : (n' : Int) ≤ 96 := by omega
              cases ho : Pl.okS q g
              · have hst2 : R = 1 := by rw [hst, ho]; rfl
                rw [show Pl.ix (Pl.wof g) q = false from ho] at HX
                replace HX := Lib.hid HX
                clear hst hfo hcx hg hgi ho
                subst hst2
                have S0 : wr.drew.cell? ⟨w.heap.size, 2, none⟩ = some (.slice a q cap) ∧ Below w.heap.size w wr.drew := ⟨k2, hb.drew⟩
                have S1 : wr.cell? ⟨w.heap.size, 2, none⟩ = some (.slice a q cap) ∧ Below w.heap.size w wr := ⟨k2, hb⟩
                go_upto_region 13 with fail
                go_region_held3 (fun w' => w'.cell? ⟨w.heap.size, 2, none⟩ = some (.slice a q cap) ∧ Below w.heap.size w w')
                  (first | with_reducible exact S0 | with_reducible assumption | with_reducible exact S1)
                  (first
                    | (with_reducible refine (HW.out _).mono ?_
                       rintro e wp ⟨he, hbp⟩
                       subst he
                       subst hbp)
                    | (with_reducible refine (HX.out _).mono ?_
                       rintro e wp ⟨he, hbp⟩
                       subst he
                       subst hbp))
                all_goals go_wp2
                all_goals go_ret
                all_goals exact ⟨rfl, S0.2⟩
              · have hst2 : Hid (R = if ((l.drop (t + 1)).all (Pl.okS q) && (LS.drop (j + 1)).all (fun l => l.all (Pl.okS q))) then 0 else 1) := Lib.hid (by rw [hst, ho]; rfl)
                rw [show Pl.ix (Pl.wof g) q = true from ho] at HX
                replace HX := Lib.hid HX
                clear hst hfo hcx hg hgi ho
                have S0 : wr.drew.cell? ⟨w.heap.size, 2, none⟩ = some (.slice a q cap) ∧ Below w.heap.size w wr.drew := ⟨k2, hb.drew⟩
                have S1 : wr.cell? ⟨w.heap.size, 2, none⟩ = some (.slice a q cap) ∧ Below w.heap.size w wr := ⟨k2, hb⟩
                go_upto_region 13 with fail
                go_region_held3 (fun w' => w'.cell? ⟨w.heap.size, 2, none⟩ = some (.slice a q cap) ∧ Below w.heap.size w w')
                  (first | with_reducible exact S0 | with_reducible assumption | with_reducible exact S1)
                  (first
                    | (with_reducible refine (HW.out _).mono ?_
                       rintro e wp ⟨he, hbp⟩
                       subst he
                       subst hbp)
                    | (with_reducible refine (HX.out _).mono ?_
                       rintro e wp ⟨he, hbp⟩
                       subst he
                       subst hbp))
                all_goals go_wp2
                all_goals go_roundw
                case rel => exact ⟨t + 1, by omega, by go_num, S0.1, S0.2, hst2⟩
                case measure => first | (simp [RowKit.intOf]; done) | (simp [RowKit.intOf]; omega) | omega
            · obtain rfl : t = n' := by omega
              have hi5 : ¬ (t : Int) < (t : Int) := by omega
              have hst2 : Hid (R = if (LS.drop (j + 1)).all (fun l => l.all (Pl.okS q)) then 0 else 1) := Lib.hid (by
                rw [hfo.out, List.drop_eq_nil_of_le (by have := hnl.out; omega)]
                simp)
              clear hfo
              have hjk : (j : Int) < (k : Int) := by omega
              go_wp2
              go_roundw
              case rel => exact ⟨j + 1, by omega, by go_num, k2, hb, hst2⟩
              case measure => first | (simp [RowKit.intOf]; done) | (simp [RowKit.intOf]; omega) | omega
        · obtain rfl : j = k := by omega
          have hi5 : ¬ (j : Int) < (j : Int) := by omega
          have hst2 : R = 0 := by
            rw [hfo.out, List.drop_eq_nil_of_le (by have := hn.out; omega)]
            simp
          clear hfo
          subst hst2
          go_wp2
          go_ret
          exact ⟨rfl, hb⟩
end Go.Proofs.YtidcedilfhmllaaDoor

/- Contracts of package plate: Follow (written by tools/genJm.py). -/
namespace Pl
/-- checkPlate -/
def cpl (s m : Int) (L : List Wk) (p : Int) : Int := if chk s m L ≠ 0 then chk s m L else if ix p m then 0 else 1
/-- Follow -/
def fol (s m : Int) (L : List Wk) (p : Int) (l : List Int) : St × Int :=
  if cpl s m L p ≠ 0 then (⟨0, 0, false⟩, cpl s m L p) else if stc L.length [l] ≠ 0 then (⟨0, 0, false⟩, stc L.length [l]) else
  match runs (adv L) ⟨p, 0, false⟩ l with
  | none => (⟨0, 0, false⟩, 8)
  | some y => (y, 0)
theorem cpl_ok {s m : Int} {L : List Wk} {p : Int} (h : cpl s m L p = 0) : chk s m L = 0 ∧ ix p m = true := by
  unfold cpl at h
  split at h
  · rename_i h1
    exact (h1 h).elim
  · rename_i h1
    refine ⟨Decidable.not_not.1 h1, ?_⟩
    split at h
    · assumption
    · cases h
theorem stc_ok {q : Nat} {LS : List (List Int)} (h : stc q LS = 0) : ∀ l ∈ LS, l.length ≤ 96 ∧ ∀ k ∈ l, k ∈ stps q := by
  unfold stc at h
  split at h
  · cases h
  · rename_i h1
    split at h
    · rename_i h2
      intro l hl
      refine ⟨?_, fun k hk => ?_⟩
      · rw [List.any_eq_true] at h1
        exact Nat.not_lt.1 fun h => h1 ⟨l, hl, decide_eq_true h⟩
      · have := List.all_eq_true.1 (List.all_eq_true.1 h2 l hl) k hk
        have := of_decide_eq_true this
        refine mem_stps.2 ?_
        unfold wof at this
        split at this <;> omega
    · cases h
end Pl
namespace Go.Proofs.YtidcedilfhmllaaDoor
open Go.RowKit

/-- a sign in a box of its own -/
def SgA (W : World) (b : Nat) (t : Nat) (m : Bool) : Prop := W.rowIs b 70 2 (fun i => if i = 0 then .int .i64 (t : Int) else .bool m)
theorem SgA.below {W W' : World} {b t : Nat} {m : Bool} (h : SgA W b t m) (hb : Below W.heap.size W W') : SgA W' b t m := Below.row' hb h
theorem SgA.set {W : World} {b t : Nat} {m : Bool} (h : SgA W b t m) (t' : Nat) (m' : Bool) : SgA ((W.setCell ⟨b, 0, none⟩ (.int .i64 (t' : Int))).setCell ⟨b, 1, none⟩ (.bool m')) b t' m' :=
  ((World.rowIs.set h 0 _).set 1 _).congr (fun i hi => by
    have : i = 0 ∨ i = 1 := by omega
    rcases this with rfl | rfl <;> simp)
theorem sga_new (X : World) (t : Nat) (m : Bool) : SgA (X.alloc (Obj.cells #[.int .i64 (t : Int), .bool m] 70)) X.heap.size t m :=
  World.rowIs_alloc X _ _ _ (fun i hi => by
    match i, hi with
    | 0, _ => rfl
    | 1, _ => rfl)
theorem ln_one {W : World} {b : Nat} {x : Option Addr} {n c : Nat} {l : List Int} (h : W.cell? ⟨b, 0, none⟩ = some (.slice x n c)) (hn : l.length = n) (hl : NsAt W x l) : LnAt W (some ⟨b, 0, none⟩) [l] := fun k hk => by
  obtain rfl : k = 0 := by simpa using hk
  exact ⟨_, x, n, c, rfl, h, hn, hl⟩

set_option maxRecDepth 100000 in
set_option maxHeartbeats 4000000 in
theorem pFollowP_any (s m : Int) (a : Option Addr) (cap : Nat) (L : List Pl.Wk) (p : Int) (x : Option Addr) (c : Nat) (l : List Int)
    (hi : Hid (∀ g ∈ l, -9223372036854775808 ≤ g ∧ g ≤ 9223372036854775807)) (w : World) (hL : Hid (WksAt w a L)) (hl : Hid (NsAt w x l)) :
    Calls Tryd.prog 33 #[shV s m a L.length cap, .int .i64 p, .slice x l.length c] w fun e w' => e = .returned (.tuple #[.int .i64 (Pl.fol s m L p l).1.p, .agg #[.int .i64 ((Pl.fol s m L p l).1.t : Int), .bool (Pl.fol s m L p l).1.m], .int .i64 (Pl.fol s m L p l).2]) ∧ Below w.heap.size w w' := by
  have HC := Lib.hid fun (W : World) (hb : Below w.heap.size w W) => checkPlate_any s m a cap L p W (Lib.hid (hL.out.below hb))
  obtain ⟨FP, FT, FM, FE, hF⟩ : ∃ FP FT FM FE, Pl.fol s m L p l = (⟨FP, FT, FM⟩, FE) := ⟨_, _, _, _, rfl⟩
  rw [hF]
  unfold Pl.fol at hF
  have hcp : (if Pl.chk s m L ≠ 0 then Pl.chk s m L else if Pl.ix p m then 0 else 1) = Pl.cpl s m L p := rfl
  rw [hcp] at HC
  have hok0 := fun h => Pl.cpl_ok (s := s) (m := m) (L := L) (p := p) h
  replace hok0 := Lib.hid hok0
  clear hcp
  generalize Pl.cpl s m L p = er at *
  obtain ⟨n, hn⟩ : ∃ n, l.length = n := ⟨_, rfl⟩
  obtain ⟨q, hq⟩ : ∃ q, L.length = q := ⟨_, rfl⟩
  rw [hq] at hF HC
  rw [hn, hq]
  unfold shV at *
  replace hF := Lib.hid hF
  replace hn := Lib.hid hn
  replace hq := Lib.hid hq
  go_enter Tryd.func33, Tryd.ntmps33
  go_upto_region 1 with fail

  have k0 : ((w.alloc (Obj.cells #[.int .i64 s, .int .i64 m, .slice a q cap] 34)).alloc (Obj.cells #[.int .i64 0, .bool false] 70)).cell? ⟨w.heap.size, 0, none⟩ = some (.int .i64 s) := by simp [go_sem]
  have k1 : ((w.alloc (Obj.cells #[.int .i64 s, .int .i64 m, .slice a q cap] 34)).alloc (Obj.cells #[.int .i64 0, .bool false] 70)).cell? ⟨w.heap.size, 1, none⟩ = some (.int .i64 m) := by simp [go_sem]
  have k2 : ((w.alloc (Obj.cells #[.int .i64 s, .int .i64 m, .slice a q cap] 34)).alloc (Obj.cells #[.int .i64 0, .bool false] 70)).cell? ⟨w.heap.size, 2, none⟩ = some (.slice a q cap) := by simp [go_sem]
  have r1 : SgA ((w.alloc (Obj.cells #[.int .i64 s, .int .i64 m, .slice a q cap] 34)).alloc (Obj.cells #[.int .i64 0, .bool false] 70)) (w.heap.size + 1) 0 false := by
    have h := sga_new (w.alloc (Obj.cells #[.int .i64 s, .int .i64 m, .slice a q cap] 34)) 0 false
    simpa using h
  have hbw : Below w.heap.size w ((w.alloc (Obj.cells #[.int .i64 s, .int .i64 m, .slice a q cap] 34)).alloc (Obj.cells #[.int .i64 0, .bool false] 70)) := below_alloc (below_alloc (Below.refl _ _) _) _
  generalize ((w.alloc (Obj.cells #[.int .i64 s, .int .i64 m, .slice a q cap] 34)).alloc (Obj.cells #[.int .i64 0, .bool false] 70)) = X at *
  go_wp2_with fail
  refine (HC.out _ hbw).mono ?_
  rintro e w1 ⟨rfl, hb1⟩
  replace k0 := kept1 k0 hb1
  replace k1 := kept1 k1 hb1
  replace k2 := kept1 k2 hb1
  replace r1 := r1.below hb1
  have hb2 : Below w.heap.size w w1 := hbw.trans (hb1.mono hbw.size)
  clear HC hbw hb1
  clear X
  by_cases h0 : er = 0
  · subst h0
    obtain ⟨hck, hpm⟩ := hok0.out rfl
    obtain ⟨_, _, hq16, hOk⟩ := Pl.chk_ok hck
    rw [hq.out] at hq16
    have hOk' := Lib.hid hOk
    clear hck hpm hok0 hOk
    have hF1 := hF.out
    rw [if_neg (by simp)] at hF1
    clear hF
    have hst0 := fun h => Pl.stc_ok (q := q) (LS := [l]) h l (List.mem_singleton.2 rfl)
    replace hst0 := Lib.hid hst0
    have HS := fun (W : World) (hb : Below w.heap.size w W) (nb : Nat) (hc : W.cell? ⟨nb, 0, none⟩ = some (.slice x n c)) => pSteps_any s m a q cap hq16 (some ⟨nb, 0, none⟩) 1 1 [l] (Lib.hid rfl) (by omega) (Lib.hid (fun l' hl' => by
      obtain rfl := List.mem_singleton.1 hl'
      exact hi.out)) W (Lib.hid (ln_one hc hn.out (hl.out.below hb)))
    have HFo := fun (hs : Pl.stc q [l] = 0) (W : World) (hb : Below w.heap.size w W) => pFollow_any s m a q cap L hq.out hq16 hOk' p x n c l hn (by have := (hst0.out hs).1; have := hn.out; omega) (Lib.hid (hst0.out hs).2) W (Lib.hid (hL.out.below hb)) (Lib.hid (hl.out.below hb))
    replace HFo := Lib.hid HFo
    generalize Pl.stc q [l] = es at *
    replace hF := Lib.hid hF1
    replace HS := Lib.hid HS
    clear hF1 hst0
    go_wp2_with fail
    refine (HS.out _ (below_alloc hb2 _) _ (by simp [go_sem])).mono ?_
    rintro e w2 ⟨rfl, hb3⟩
    have hbA : Below w1.heap.size w1 w2 := (below_alloc (Below.refl w1.heap.size w1) _).trans (hb3.mono (by simp))
    replace k0 := kept1 k0 hbA
    replace k1 := kept1 k1 hbA
    replace k2 := kept1 k2 hbA
    replace r1 := r1.below hbA
    have hb4 : Below w.heap.size w w2 := hb2.trans (hbA.mono hb2.size)
    clear HS hb2 hb3 hbA
    by_cases h1 : es = 0
    · subst h1
      have hF1 := hF.out
      rw [if_neg (by simp)] at hF1
      clear hF
      have HFo2 := Lib.hid (HFo.out rfl)
      clear HFo
      generalize hru : Pl.runs (Pl.adv L) ⟨p, 0, false⟩ l = rs at *
      clear hru
      cases rs with
      | none =>
        simp only [Prod.mk.injEq, Pl.St.mk.injEq] at hF1
        obtain ⟨⟨rfl, rfl, rfl⟩, rfl⟩ := hF1
        simp only [rsV] at HFo2
        replace HFo2 := Lib.hid HFo2.out
        go_wp2_with fail
        refine (HFo2.out _ hb4).mono ?_
        rintro e w3 ⟨rfl, hb5⟩
        have hb6 : Below w.heap.size w (w3.alloc (Obj.cells #[.int .i64 0, .int .i64 0, .bool false] 111)) := below_alloc (hb4.trans (hb5.mono hb4.size)) _
        replace r1 := r1.below (below_alloc hb5 (Obj.cells #[.int .i64 0, .int .i64 0, .bool false] 111))
        clear HFo2 hb4 hb5
        go_upto_region 9 with fail
        generalize w3.alloc (Obj.cells #[.int .i64 0, .int .i64 0, .bool false] 111) = Z at *
        have t0 := World.rowIs.cell r1 (i := 0) (by omega)
        have t1 := World.rowIs.cell r1 (i := 1) (by omega)
        have z0 := World.rowIs.frozen r1 0
        have z1 := World.rowIs.frozen r1 1
        have hS : SgA ((Z.setCell ⟨w.heap.size + 1, 0, none⟩ (.int .i64 0)).setCell ⟨w.heap.size + 1, 1, none⟩ (.bool false)) (w.heap.size + 1) 0 false := SgA.set r1 0 false
        have hq0 : ((Z.setCell ⟨w.heap.size + 1, 0, none⟩ (.int .i64 0)).setCell ⟨w.heap.size + 1, 1, none⟩ (.bool false)).cell? ⟨w.heap.size + 1, 0, none⟩ = some (.int .i64 0) := World.rowIs.cell hS (i := 0) (by omega)
        have hq1 : ((Z.setCell ⟨w.heap.size + 1, 0, none⟩ (.int .i64 0)).setCell ⟨w.heap.size + 1, 1, none⟩ (.bool false)).cell? ⟨w.heap.size + 1, 1, none⟩ = some (.bool false) := World.rowIs.cell hS (i := 1) (by omega)
        have hZ : Below w.heap.size w ((Z.setCell ⟨w.heap.size + 1, 0, none⟩ (.int .i64 0)).setCell ⟨w.heap.size + 1, 1, none⟩ (.bool false)) := (hb6.setCell (p := ⟨w.heap.size + 1, 0, none⟩) (by show w.heap.size ≤ w.heap.size + 1; omega) _).setCell (p := ⟨w.heap.size + 1, 1, none⟩) (by show w.heap.size ≤ w.heap.size + 1; omega) _
        go_wp2
        generalize ((Z.setCell ⟨w.heap.size + 1, 0, none⟩ (.int .i64 0)).setCell ⟨w.heap.size + 1, 1, none⟩ (.bool false)) = V at *
        refine bodyPost_ret (v := .tuple #[.int .i64 0, .agg #[.int .i64 0, .bool false], .int .i64 8]) (by simp [results, Tryd.results33, go_sem, hq0, hq1]) rfl ?_
        exact ⟨rfl, hZ⟩
      | some Y =>
        obtain ⟨p2, t2, m2⟩ := Y
        simp only [Prod.mk.injEq, Pl.St.mk.injEq] at hF1
        obtain ⟨⟨rfl, rfl, rfl⟩, rfl⟩ := hF1
        simp only [rsV, stV] at HFo2
        replace HFo2 := Lib.hid HFo2.out
        go_wp2_with fail
        refine (HFo2.out _ hb4).mono ?_
        rintro e w3 ⟨rfl, hb5⟩
        have hb6 : Below w.heap.size w (w3.alloc (Obj.cells #[.int .i64 p2, .int .i64 (t2 : Int), .bool m2] 111)) := below_alloc (hb4.trans (hb5.mono hb4.size)) _
        replace r1 := r1.below (below_alloc hb5 (Obj.cells #[.int .i64 p2, .int .i64 (t2 : Int), .bool m2] 111))
        have rS : SA (w3.alloc (Obj.cells #[.int .i64 p2, .int .i64 (t2 : Int), .bool m2] 111)) w3.heap.size ⟨p2, t2, m2⟩ := sa_new w3 ⟨p2, t2, m2⟩
        clear HFo2 hb4 hb5
        go_upto_region 10 with fail
        generalize w3.alloc (Obj.cells #[.int .i64 p2, .int .i64 (t2 : Int), .bool m2] 111) = Z at *
        generalize w3.heap.size = sb at *
        have s0 : Z.cell? ⟨sb, 0, none⟩ = some (.int .i64 p2) := World.rowIs.cell rS (i := 0) (by omega)
        have s1 : Z.cell? ⟨sb, 1, none⟩ = some (.int .i64 (t2 : Int)) := World.rowIs.cell rS (i := 1) (by omega)
        have s2 : Z.cell? ⟨sb, 2, none⟩ = some (.bool m2) := World.rowIs.cell rS (i := 2) (by omega)
        have t0 := World.rowIs.cell r1 (i := 0) (by omega)
        have t1 := World.rowIs.cell r1 (i := 1) (by omega)
        have z0 := World.rowIs.frozen r1 0
        have z1 := World.rowIs.frozen r1 1
        have hS : SgA ((Z.setCell ⟨w.heap.size + 1, 0, none⟩ (.int .i64 (t2 : Int))).setCell ⟨w.heap.size + 1, 1, none⟩ (.bool m2)) (w.heap.size + 1) t2 m2 := SgA.set r1 t2 m2
        have hq0 : ((Z.setCell ⟨w.heap.size + 1, 0, none⟩ (.int .i64 (t2 : Int))).setCell ⟨w.heap.size + 1, 1, none⟩ (.bool m2)).cell? ⟨w.heap.size + 1, 0, none⟩ = some (.int .i64 (t2 : Int)) := World.rowIs.cell hS (i := 0) (by omega)
        have hq1 : ((Z.setCell ⟨w.heap.size + 1, 0, none⟩ (.int .i64 (t2 : Int))).setCell ⟨w.heap.size + 1, 1, none⟩ (.bool m2)).cell? ⟨w.heap.size + 1, 1, none⟩ = some (.bool m2) := World.rowIs.cell hS (i := 1) (by omega)
        have hZ : Below w.heap.size w ((Z.setCell ⟨w.heap.size + 1, 0, none⟩ (.int .i64 (t2 : Int))).setCell ⟨w.heap.size + 1, 1, none⟩ (.bool m2)) := (hb6.setCell (p := ⟨w.heap.size + 1, 0, none⟩) (by show w.heap.size ≤ w.heap.size + 1; omega) _).setCell (p := ⟨w.heap.size + 1, 1, none⟩) (by show w.heap.size ≤ w.heap.size + 1; omega) _
        go_region
        go_wp2
        generalize ((Z.setCell ⟨w.heap.size + 1, 0, none⟩ (.int .i64 (t2 : Int))).setCell ⟨w.heap.size + 1, 1, none⟩ (.bool m2)) = V at *
        refine bodyPost_ret (v := .tuple #[.int .i64 p2, .agg #[.int .i64 (t2 : Int), .bool m2], .int .i64 0]) (by simp [results, Tryd.results33, go_sem, hq0, hq1]) rfl ?_
        exact ⟨rfl, hZ.drew⟩
    · have n1 : (es != 0) = true := by simpa using h1
      have hF2 := hF.out
      rw [if_pos h1] at hF2
      simp only [Prod.mk.injEq, Pl.St.mk.injEq] at hF2
      obtain ⟨⟨rfl, rfl, rfl⟩, rfl⟩ := hF2
      clear hF
      have t0 := World.rowIs.cell r1 (i := 0) (by omega)
      have t1 := World.rowIs.cell r1 (i := 1) (by omega)
      have z0 := World.rowIs.frozen r1 0
      have z1 := World.rowIs.frozen r1 1
      have hS : SgA ((w2.setCell ⟨w.heap.size + 1, 0, none⟩ (.int .i64 0)).setCell ⟨w.heap.size + 1, 1, none⟩ (.bool false)) (w.heap.size + 1) 0 false := SgA.set r1 0 false
      have hq0 : ((w2.setCell ⟨w.heap.size + 1, 0, none⟩ (.int .i64 0)).setCell ⟨w.heap.size + 1, 1, none⟩ (.bool false)).cell? ⟨w.heap.size + 1, 0, none⟩ = some (.int .i64 0) := World.rowIs.cell hS (i := 0) (by omega)
      have hq1 : ((w2.setCell ⟨w.heap.size + 1, 0, none⟩ (.int .i64 0)).setCell ⟨w.heap.size + 1, 1, none⟩ (.bool false)).cell? ⟨w.heap.size + 1, 1, none⟩ = some (.bool false) := World.rowIs.cell hS (i := 1) (by omega)
      have hZ : Below w.heap.size w ((w2.setCell ⟨w.heap.size + 1, 0, none⟩ (.int .i64 0)).setCell ⟨w.heap.size + 1, 1, none⟩ (.bool false)) := (hb4.setCell (p := ⟨w.heap.size + 1, 0, none⟩) (by show w.heap.size ≤ w.heap.size + 1; omega) _).setCell (p := ⟨w.heap.size + 1, 1, none⟩) (by show w.heap.size ≤ w.heap.size + 1; omega) _
      go_wp2
      generalize ((w2.setCell ⟨w.heap.size + 1, 0, none⟩ (.int .i64 0)).setCell ⟨w.heap.size + 1, 1, none⟩ (.bool false)) = V at *
      refine bodyPost_ret (v := .tuple #[.int .i64 0, .agg #[.int .i64 0, .bool false], .int .i64 es]) (by simp [results, Tryd.results33, go_sem, hq0, hq1]) rfl ?_
      exact ⟨rfl, hZ⟩
  · have n0 : (er != 0) = true := by simpa using h0
    have hF2 := hF.out
    rw [if_pos h0] at hF2
    simp only [Prod.mk.injEq, Pl.St.mk.injEq] at hF2
    obtain ⟨⟨rfl, rfl, rfl⟩, rfl⟩ := hF2
    clear hF
    have t0 := World.rowIs.cell r1 (i := 0) (by omega)
    have t1 := World.rowIs.cell r1 (i := 1) (by omega)
    have z0 := World.rowIs.frozen r1 0
    have z1 := World.rowIs.frozen r1 1
    have hS : SgA ((w1.setCell ⟨w.heap.size + 1, 0, none⟩ (.int .i64 0)).setCell ⟨w.heap.size + 1, 1, none⟩ (.bool false)) (w.heap.size + 1) 0 false := SgA.set r1 0 false
    have hq0 : ((w1.setCell ⟨w.heap.size + 1, 0, none⟩ (.int .i64 0)).setCell ⟨w.heap.size + 1, 1, none⟩ (.bool false)).cell? ⟨w.heap.size + 1, 0, none⟩ = some (.int .i64 0) := World.rowIs.cell hS (i := 0) (by omega)
    have hq1 : ((w1.setCell ⟨w.heap.size + 1, 0, none⟩ (.int .i64 0)).setCell ⟨w.heap.size + 1, 1, none⟩ (.bool false)).cell? ⟨w.heap.size + 1, 1, none⟩ = some (.bool false) := World.rowIs.cell hS (i := 1) (by omega)
    have hZ : Below w.heap.size w ((w1.setCell ⟨w.heap.size + 1, 0, none⟩ (.int .i64 0)).setCell ⟨w.heap.size + 1, 1, none⟩ (.bool false)) := (hb2.setCell (p := ⟨w.heap.size + 1, 0, none⟩) (by show w.heap.size ≤ w.heap.size + 1; omega) _).setCell (p := ⟨w.heap.size + 1, 1, none⟩) (by show w.heap.size ≤ w.heap.size + 1; omega) _
    go_wp2
    generalize ((w1.setCell ⟨w.heap.size + 1, 0, none⟩ (.int .i64 0)).setCell ⟨w.heap.size + 1, 1, none⟩ (.bool false)) = V at *
    refine bodyPost_ret (v := .tuple #[.int .i64 0, .agg #[.int .i64 0, .bool false], .int .i64 er]) (by simp [results, Tryd.results33, go_sem, hq0, hq1]) rfl ?_
    exact ⟨rfl, hZ⟩
end Go.Proofs.YtidcedilfhmllaaDoor

/- Contracts of package plate: what freedom asks of the signs. -/
namespace Go.Proofs.YtidcedilfhmllaaDoor
open Go.RowKit

/-- signs in a row, wherever they lie -/
def SgsAt (w : World) (a : Option Addr) (G : List (Nat × Bool)) : Prop := ∀ k, k < G.length → ∃ x, a = some x ∧ w.cell? (x.add (k * 2)) = some (.int .i64 ((G.getD k (0, false)).1 : Int)) ∧ w.cell? ⟨(x.add (k * 2)).block, (x.add (k * 2)).off + 1, none⟩ = some (.bool (G.getD k (0, false)).2)
theorem SgsAt.below {w W : World} {a : Option Addr} {G : List (Nat × Bool)} (h : SgsAt w a G) (hb : Below w.heap.size w W) : SgsAt W a G := fun k hk => by
  obtain ⟨x, rfl, h1, h2⟩ := h k hk
  exact ⟨x, rfl, kept1 h1 hb, kept1 h2 hb⟩
theorem any_atG {G : List (Nat × Bool)} {k : Nat} (h : k < G.length) : (G.drop k).any (·.2) = ((G.getD k (0, false)).2 || (G.drop (k + 1)).any (·.2)) := by
  rw [List.drop_eq_getElem_cons h, List.any_cons]
  simp [List.getD, List.getElem?_eq_getElem h]

set_option maxHeartbeats 400000 in
theorem minus_any (t : Int) (m : Bool) (w : World) :
    Calls Tryd.prog 81 #[.agg #[.int .i64 t, .bool m]] w fun e w' => e = .returned (.bool m) ∧ Below w.heap.size w w' := by
  go_enter Tryd.func81, Tryd.ntmps81
  go_wp2
  go_ret
  exact ⟨rfl, (by repeat (first | with_reducible exact Below.refl _ _ | with_reducible assumption | refine below_drewN ?_ _ | refine Below.drew ?_ | refine Below.alloc ?_ (by first | (simp; done) | (simp; omega) | omega) _ | refine Below.setCell ?_ (by first | (simp; done) | (simp; omega) | omega) _ | refine Below.trans ?_ (Below.mono (by assumption) (by first | (simp; done) | (simp; omega) | omega))))⟩

/-- the index that is found, or none -/
def IxqPost (w : World) (b : Bool) (e : Ending) (w' : World) : Prop := ∃ z : Int, e = .returned (.int .i64 z) ∧ (0 ≤ z ↔ b = true) ∧ Below w.heap.size w w'

set_option maxRecDepth 100000 in
set_option maxHeartbeats 1000000 in
theorem indexMinus_any (a : Option Addr) (cap : Nat) (G : List (Nat × Bool)) (n : Nat) (hn : Hid (G.length = n)) (hn2 : n ≤ 1000) (b : Bool) (hb : Hid (G.any (·.2) = b)) (w : World) (hl : Hid (SgsAt w a G)) :
    Calls Tryd.prog 99 #[.slice a n cap, .func (.func 81) #[] #[]] w (IxqPost w b) := by
  go_enter Tryd.func99, Tryd.ntmps99
  go_wp2
  go_loopw [8] (fun i wr => ∃ k : Nat, k ≤ n ∧ i = .int .i64 k ∧ Below w.heap.size w wr ∧ Hid (G.any (·.2) = (G.drop k).any (·.2))) (fun i _ => n - (RowKit.intOf i).toNat)
  case atStart => exact ⟨0, Nat.zero_le _, rfl, Below.refl _ _, Lib.hid rfl⟩
  case round =>
    obtain ⟨k, hk, rfl, hbw, hany⟩ := hrel
    by_cases hlt : k < n
    · obtain ⟨x, rfl, hc0, hc1⟩ := hl.out k (by have := hn.out; omega)
      have hst := any_atG (G := G) (k := k) (by have := hn.out; omega)
      obtain ⟨t, m, hz⟩ : ∃ t m, G.getD k (0, false) = (t, m) := ⟨_, _, rfl⟩
      rw [hz] at hc0 hc1 hst
      simp only at hc0 hc1 hst
      replace hc0 := kept1 hc0 hbw
      replace hc1 := kept1 hc1 hbw
      clear hz
      have hi5 : (k : Int) < (n : Int) := by omega
      have HV := Lib.hid (minus_any (t : Int) m)
      replace hst := Lib.hid hst
      go_wp2_with fail
      refine (HV.out _).mono ?_
      rintro e w1 ⟨rfl, hb1⟩
      have hb2 : Below w.heap.size w w1 := hbw.trans (hb1.mono hbw.size)
      cases m
      · go_wp2
        go_roundw
        case rel => exact ⟨k + 1, by omega, by go_num, hb2, Lib.hid (by rw [hany.out, hst.out]; simp)⟩
        case measure => first | (simp [RowKit.intOf]; done) | (simp [RowKit.intOf]; omega) | omega
      · go_wp2
        go_ret
        exact ⟨_, rfl, by rw [← hb.out, hany.out, hst.out]; simp, hb2⟩
    · obtain rfl : k = n := by omega
      have hi5 : ¬ (k : Int) < (k : Int) := by omega
      have hb9 : Hid (G.any (·.2) = false) := Lib.hid (by rw [hany.out, List.drop_eq_nil_of_le (by have := hn.out; omega)]; rfl)
      clear hany
      go_wp2
      go_ret
      exact ⟨-1, rfl, by rw [← hb.out, hb9.out]; simp, hbw⟩

set_option maxHeartbeats 400000 in
theorem containsMinus_any (a : Option Addr) (cap : Nat) (G : List (Nat × Bool)) (n : Nat) (hn : Hid (G.length = n)) (hn2 : n ≤ 1000) (w : World) (hl : Hid (SgsAt w a G)) :
    Calls Tryd.prog 80 #[.slice a n cap, .func (.func 81) #[] #[]] w fun e w' => e = .returned (.bool (G.any (·.2))) ∧ Below w.heap.size w w' := by
  obtain ⟨b, hb⟩ : ∃ b, G.any (·.2) = b := ⟨_, rfl⟩
  rw [hb]
  have H := indexMinus_any a cap G n hn hn2 b (Lib.hid hb) w hl
  clear hb hl
  go_enter Tryd.func80, Tryd.ntmps80
  go_wp2_with fail
  refine H.mono ?_
  rintro e w1 ⟨z, rfl, hz, hb1⟩
  replace hz := Lib.hid hz
  go_wp2
  go_ret
  refine ⟨ret_bool ?_, hb1⟩
  have h := hz.out
  cases b
  · simp at h
    rw [decide_eq_false (by omega)]
  · simp at h
    rw [decide_eq_true (by omega)]
end Go.Proofs.YtidcedilfhmllaaDoor

/- Contracts of the specification of layer 3: SameSigns. -/
namespace Go.Proofs.YtidcedilfhmllaaDoor
open Go.RowKit

theorem sg_held : Tryd.prog.stoodInHeld 70 = false := by kernel_rfl
theorem sg_guard : Tryd.prog.eqGuardType Tryd.prog.depth 70 = false := by kernel_rfl
theorem int_heldJ : Tryd.prog.stoodInHeld 3 = false := by kernel_rfl
theorem run_eql_sg (t t' : Int) (m m' : Bool) (w : World) : (binOp .eql 70 (.agg #[.int .i64 t, .bool m]) (.agg #[.int .i64 t', .bool m'])).run Tryd.prog w = .ok (.bool (decide (t = t' ∧ m = m'))) w := by
  rw [run_eql_struct, run_equalIn_agg _ _ _ _ _ (by simp only [Program.fieldsOf, Tryd.underlying70]) sg_held]
  simp only [Program.fieldsOf, Tryd.underlying70]
  by_cases h1 : t = t'
  · by_cases h2 : m = m'
    · simp [Op.eqFields, go_sem, h1, h2]
    · simp [Op.eqFields, go_sem, h1, h2]
  · simp [Op.eqFields, go_sem, h1]
theorem run_neq_sg (t t' : Int) (m m' : Bool) (w : World) : (binOp .neq 70 (.agg #[.int .i64 t, .bool m]) (.agg #[.int .i64 t', .bool m'])).run Tryd.prog w = .ok (.bool (!(decide (t = t' ∧ m = m')))) w := by
  have h := run_eql_sg t t' m m' w
  rw [run_eql_struct] at h
  rw [run_neq_struct]
  revert h
  generalize (Op.equalIn 10000 70 (.agg #[.int .i64 t, .bool m]) (.agg #[.int .i64 t', .bool m'])).run Tryd.prog w = r
  intro h
  cases r with
  | ok b w' =>
    simp [Result.andThen] at h ⊢
    obtain ⟨h1, h2⟩ := h
    subst h1; subst h2
    simp
  | _ => simp [Result.andThen] at h

set_option maxHeartbeats 400000 in
theorem sameSigns_len (a b : Option Addr) (p q c d : Nat) (h : ((p : Int) != (q : Int)) = true) (w : World) :
    Calls Tryd.prog 41 #[.slice a p c, .slice b q d] w fun e w' => e = .returned (.bool false) ∧ Below w.heap.size w w' := by
  go_enter Tryd.func41, Tryd.ntmps41
  go_wp2
  go_ret
  exact ⟨rfl, (by repeat (first | with_reducible exact Below.refl _ _ | with_reducible assumption | refine below_drewN ?_ _ | refine Below.drew ?_ | refine Below.alloc ?_ (by first | (simp; done) | (simp; omega) | omega) _ | refine Below.setCell ?_ (by first | (simp; done) | (simp; omega) | omega) _ | refine Below.trans ?_ (Below.mono (by assumption) (by first | (simp; done) | (simp; omega) | omega))))⟩

set_option maxRecDepth 100000 in
set_option maxHeartbeats 2000000 in
theorem sameSigns_loop (a b : Option Addr) (p c d : Nat) (l1 l2 : List (Nat × Bool)) (h1 : Hid (l1.length = p)) (h2 : Hid (l2.length = p)) (hp : p ≤ 1000000) (R : Bool) (hR : Hid (decide (l1 = l2) = R)) (w : World) (hl1 : Hid (SgsAt w a l1)) (hl2 : Hid (SgsAt w b l2)) :
    Calls Tryd.prog 41 #[.slice a p c, .slice b p d] w fun e w' => e = .returned (.bool R) ∧ Below w.heap.size w w' := by
  go_enter Tryd.func41, Tryd.ntmps41
  go_wp2
  go_loopw [5] (fun i wr => ∃ k : Nat, k ≤ p ∧ i = .int .i64 k ∧ Below w.heap.size w wr ∧ Hid (∀ j, j < k → l1.getD j (0, false) = l2.getD j (0, false))) (fun i _ => p - (RowKit.intOf i).toNat)
  case atStart => exact ⟨0, Nat.zero_le _, rfl, Below.refl _ _, Lib.hid (fun j hj => by omega)⟩
  case round =>
    obtain ⟨k, hk, rfl, hb, hall⟩ := hrel
    by_cases hlt : k < p
    · obtain ⟨x, rfl, hx0, hx1⟩ := hl1.out k (by have := h1.out; omega)
      obtain ⟨y, rfl, hy0, hy1⟩ := hl2.out k (by have := h2.out; omega)
      obtain ⟨u, ub, hu⟩ : ∃ u ub, l1.getD k (0, false) = (u, ub) := ⟨_, _, rfl⟩
      obtain ⟨v, vb, hv⟩ : ∃ v vb, l2.getD k (0, false) = (v, vb) := ⟨_, _, rfl⟩
      rw [hu] at hx0 hx1
      rw [hv] at hy0 hy1
      simp only at hx0 hx1 hy0 hy1
      replace hx0 := kept1 hx0 hb
      replace hx1 := kept1 hx1 hb
      replace hy0 := kept1 hy0 hb
      replace hy1 := kept1 hy1 hb
      replace hu := Lib.hid hu
      replace hv := Lib.hid hv
      have hi5 : (k : Int) < (p : Int) := by omega
      have hi6 : (0 : Int) ≤ (k : Int) := by omega
      have hne := run_neq_sg (u : Int) (v : Int) ub vb
      have hgd := sg_guard
      obtain ⟨sm, hsm⟩ : ∃ sm, decide ((u : Int) = (v : Int) ∧ ub = vb) = sm := ⟨_, rfl⟩
      rw [hsm] at hne
      replace hsm := Lib.hid hsm
      have hb' := Lib.hid hb
      clear hb
      go_upto_region 6 with fail
      go_quiet (fail)
      clear hne hgd
      cases sm
      · have hR2 : R = false := by
          rw [← hR.out, decide_eq_false]
          intro e
          have h9 := of_decide_eq_false hsm.out
          rw [e, hv.out] at hu
          have h8 := Prod.mk.inj hu.out
          exact h9 ⟨by rw [h8.1], h8.2.symm⟩
        subst hR2
        clear hall hR
        go_wp2
        go_ret
        exact ⟨rfl, below_drewN hb'.out _⟩
      · have h9 := of_decide_eq_true hsm.out
        have hall2 : Hid (∀ j, j < k + 1 → l1.getD j (0, false) = l2.getD j (0, false)) := Lib.hid (fun j hj => by
          rcases Nat.lt_or_ge j k with h | h
          · exact hall.out j h
          · obtain rfl : j = k := by omega
            rw [hu.out, hv.out, h9.2, show u = v by omega])
        have hbn := fun nq => below_drewN hb'.out nq
        clear hall h9
        go_wp2
        go_roundw
        case rel => exact ⟨k + 1, by omega, by go_num, hbn _, hall2⟩
        case measure => first | (simp [RowKit.intOf]; done) | (simp [RowKit.intOf]; omega) | omega
    · obtain rfl : k = p := by omega
      have hi5 : ¬ (k : Int) < (k : Int) := by omega
      have hR2 : R = true := by
        rw [← hR.out, decide_eq_true]
        refine List.ext_getElem (h1.out.trans h2.out.symm) (fun j hj1 hj2 => ?_)
        have := hall.out j (by have := h1.out; omega)
        simp only [List.getD, List.getElem?_eq_getElem hj1, List.getElem?_eq_getElem hj2, Option.getD_some] at this
        exact this
      subst hR2
      clear hall hR
      go_wp2
      go_ret
      exact ⟨rfl, hb⟩
end Go.Proofs.YtidcedilfhmllaaDoor

/- States compared. -/
namespace Go.Proofs.YtidcedilfhmllaaDoor
open Go.RowKit
theorem st_held : Tryd.prog.stoodInHeld 111 = false := by kernel_rfl
theorem st_guard : Tryd.prog.eqGuardType Tryd.prog.depth 111 = false := by kernel_rfl
theorem run_eql_st (p p' t t' : Int) (m m' : Bool) (w : World) : (binOp .eql 111 (.agg #[.int .i64 p, .int .i64 t, .bool m]) (.agg #[.int .i64 p', .int .i64 t', .bool m'])).run Tryd.prog w = .ok (.bool (decide (p = p' ∧ t = t' ∧ m = m'))) w := by
  rw [run_eql_struct, run_equalIn_agg _ _ _ _ _ (by simp only [Program.fieldsOf, Tryd.underlying111]) st_held]
  simp only [Program.fieldsOf, Tryd.underlying111]
  by_cases h1 : p = p'
  · by_cases h2 : t = t'
    · by_cases h3 : m = m'
      · simp [Op.eqFields, go_sem, h1, h2, h3]
      · simp [Op.eqFields, go_sem, h1, h2, h3]
    · simp [Op.eqFields, go_sem, h1, h2]
  · simp [Op.eqFields, go_sem, h1]
theorem run_neq_st (p p' t t' : Int) (m m' : Bool) (w : World) : (binOp .neq 111 (.agg #[.int .i64 p, .int .i64 t, .bool m]) (.agg #[.int .i64 p', .int .i64 t', .bool m'])).run Tryd.prog w = .ok (.bool (!(decide (p = p' ∧ t = t' ∧ m = m')))) w := by
  have h := run_eql_st p p' t t' m m' w
  rw [run_eql_struct] at h
  rw [run_neq_struct]
  revert h
  generalize (Op.equalIn 10000 111 (.agg #[.int .i64 p, .int .i64 t, .bool m]) (.agg #[.int .i64 p', .int .i64 t', .bool m'])).run Tryd.prog w = r
  intro h
  cases r with
  | ok b w' =>
    simp [Result.andThen] at h ⊢
    obtain ⟨h1, h2⟩ := h
    subst h1; subst h2
    simp
  | _ => simp [Result.andThen] at h
end Go.Proofs.YtidcedilfhmllaaDoor

/- slices.Backward of signs. -/
namespace Go.Proofs.YtidcedilfhmllaaDoor
open Go.RowKit
attribute [local go_sem] Oper.semAt_some

theorem backwardS_any (a : Option Addr) (m cap : Nat) (w : World) :
    Calls Tryd.prog 71 #[.slice a m cap] w fun e w' => e = .returned (.func (.func 92) #[] #[.pointer (some ⟨w.heap.size, 0, none⟩)]) ∧ w' = w.alloc (.cells #[.slice a m cap] 46) := by
  have hmf : ∀ (fn : Fn) (first cap : Array Value) (w : World), (Instr.makeFunc fn first cap).run Tryd.prog w = .ok (.func fn first cap) w := fun _ _ _ _ => rfl
  go_enter Tryd.func71, Tryd.ntmps71
  go_wp2
  go_ret
  exact ⟨rfl, rfl⟩

/-- what Backward hands out: the last c signs with their indices, the last one first -/
def bs (L : List (Nat × Bool)) (c : Nat) : List (Nat × (Nat × Bool)) := (List.range c).map fun j => (L.length - 1 - j, L.getD (L.length - 1 - j) (0, false))
theorem bs_next (L : List (Nat × Bool)) (c : Nat) : bs L (c + 1) = bs L c ++ [(L.length - 1 - c, L.getD (L.length - 1 - c) (0, false))] := by
  unfold bs
  rw [List.range_succ, List.map_append]
  rfl
theorem bs_len (L : List (Nat × Bool)) (c : Nat) : (bs L c).length = c := by unfold bs; simp
theorem bs_take (L : List (Nat × Bool)) {c : Nat} (h : c ≤ L.length) : bs L c = (bs L L.length).take c := by
  unfold bs
  rw [← List.map_take, List.take_range, Nat.min_eq_left h]
theorem bs_pre (L : List (Nat × Bool)) {c : Nat} (h : c ≤ L.length) : bs L c <+: bs L L.length := by
  rw [bs_take L h]; exact List.take_prefix _ _

/-- what the iterator reads -/
structure BS (bb m cap : Nat) (a : Option Addr) (L : List (Nat × Bool)) (W : World) : Prop where
  c : W.cell? ⟨bb, 0, none⟩ = some (.slice a m cap)
  l : SgsAt W a L
def sgV (g : Nat × Bool) : Value := .agg #[.int .i64 (g.1 : Int), .bool g.2]
def bsV (x : Nat × Nat × Bool) : Array Value := #[.int .i64 (x.1 : Int), sgV x.2]

set_option maxRecDepth 100000 in
set_option maxHeartbeats 2000000 in
theorem backwardS1_in (q : Nat) (hq : 2 ≤ q) (l bb m cap : Nat) (a : Option Addr) (L : List (Nat × Bool)) (hm : Hid (L.length = m)) (hm3 : m ≤ 300) (J Jx : List (Nat × (Nat × Bool)) → World → Prop)
    (hK : ∀ pre W, J pre W → BS bb m cap a L W)
    (hY : ∀ pre x W, J pre W → pre ++ [x] <+: bs L L.length → YieldAt Fence.wide (q - 1) Tryd.prog l (bsV x) W fun e W' =>
      (e = .returned (.bool true) ∧ J (pre ++ [x]) W' ∧ KeepsWalks W W') ∨ (e = .returned (.bool false) ∧ Jx (pre ++ [x]) W'))
    (W : World) (hA : AbidesFrom W.heap.size J) (h0 : J [] W) :
    CallsIn Fence.wide q Tryd.prog 92 #[.func (.yield l) #[] #[], .pointer (some ⟨bb, 0, none⟩)] W fun e W' => (∃ v, e = .returned v) ∧ (J (bs L L.length) W' ∨ ∃ pre, pre <+: bs L L.length ∧ Jx pre W') := by
  have hn1 : 1 ≤ q := by omega
  obtain ⟨e2, _⟩ := hK _ _ h0
  refine callsIn_of_wp Tryd.func92 rfl trivial ?_ rfl
  simp only [Tryd.ntmps92, List.size_toArray, List.length_cons, List.length_nil, Nat.reduceAdd, Nat.reduceSub, Array.replicate_succ, Array.replicate_zero, List.push_toArray, List.append_toArray, List.nil_append, List.cons_append]
  gi_wp2
  gi_loopw [3] (fun i wr => ∃ c : Nat, c ≤ m ∧ i = .int .i64 ((m : Int) - 1 - (c : Int)) ∧ J (bs L c) wr) (fun i _ => (RowKit.intOf i + 1).toNat)
  case atStart => exact ⟨0, Nat.zero_le _, by go_num, h0⟩
  case round =>
    obtain ⟨c, hc, rfl, hJs⟩ := hrel
    clear e2
    by_cases hlt : c < m
    · obtain ⟨k, hk⟩ : ∃ k : Nat, (m : Int) - 1 - (c : Int) = (k : Int) := ⟨m - 1 - c, by omega⟩
      rw [hk]
      obtain ⟨e2, hl⟩ := hK _ _ hJs
      have hk2 : k = L.length - 1 - c := by have := hm.out; omega
      obtain ⟨y, rfl, hl3⟩ := hl k (by have := hm.out; omega)
      have hnx := Lib.hid (bs_next L c)
      have hpre := Lib.hid (bs_pre L (c := c + 1) (by have := hm.out; omega))
      rw [← hk2] at hnx
      obtain ⟨f, t, hlk⟩ : ∃ f t, L.getD k (0, false) = (f, t) := ⟨_, _, rfl⟩
      have ⟨q0, q1⟩ := hl3
      rw [hlk] at q0 q1 hnx
      simp only at q0 q1
      have hp2 := hpre.out
      rw [hnx.out] at hp2
      obtain ⟨fn, tmps, assign, body, hy, hR⟩ := hY _ _ wr hJs hp2
      simp only [sgV, bsV] at hy
      have hi5 : (0 : Int) ≤ (k : Int) := by omega
      have hi6 : (k : Int) < (m : Int) := by omega
      replace hk := Lib.hid hk
      replace hk2 := Lib.hid hk2
      clear hl3 hl hY hlk hp2 h0 hA hK
      gi_wp2
      refine hR.mono ?_
      rintro e W3 (⟨rfl, hJ3, hk3⟩ | ⟨rfl, hJx3⟩)
      · gi_wp2
        go_roundw
        case rel => exact ⟨c + 1, by omega, by have := hk.out; go_num, by rw [hnx.out]; exact hJ3⟩
        case measure => (have := hk.out; first | (simp [RowKit.intOf]; done) | (simp [RowKit.intOf]; omega))
      · gi_wp2
        refine bodyPost_ret (results_none rfl _ _ _) rfl ?_
        exact ⟨⟨_, rfl⟩, .inr ⟨_, by have := hpre.out; rw [hnx.out] at this; exact this, hJx3⟩⟩
    · obtain rfl : c = m := by omega
      have hneg : ¬ (0 : Int) ≤ (c : Int) - 1 - (c : Int) := by omega
      gi_wp2
      go_end0
      refine ⟨⟨_, rfl⟩, .inl ?_⟩
      rw [hm.out]
      exact hJs

theorem backwardS_hands (q : Nat) (hq : 2 ≤ q) (bb m cap : Nat) (a : Option Addr) (L : List (Nat × Bool)) (hm : L.length = m) (hm3 : m ≤ 300) (w : World) :
    HandsV bsV q Tryd.prog 92 #[.pointer (some ⟨bb, 0, none⟩)] (bs L L.length) (BS bb m cap a L) w := fun l J Jx W _ hA hK hY h0 =>
  backwardS1_in q hq l bb m cap a L (Lib.hid hm) hm3 J Jx hK hY W hA h0
end Go.Proofs.YtidcedilfhmllaaDoor

/- Contracts of package plate: validHeights. -/
namespace Pl
def hfar (h : Int) : Bool := decide (h < -1099511627776 ∨ 1099511627776 < h)
end Pl
namespace Go.Proofs.YtidcedilfhmllaaDoor
open Go.RowKit

theorem any_atH {l : List Int} {k : Nat} (h : k < l.length) : (l.drop k).any Pl.hfar = (Pl.hfar (l.getD k 0) || (l.drop (k + 1)).any Pl.hfar) := by
  rw [List.drop_eq_getElem_cons h, List.any_cons]
  simp [List.getD, List.getElem?_eq_getElem h]

set_option maxHeartbeats 400000 in
theorem hfar_any (h : Int) (w : World) :
    Calls Tryd.prog 76 #[.int .i64 h] w fun e w' => e = .returned (.bool (Pl.hfar h)) ∧ w' = w := by
  by_cases h1 : h < -1099511627776
  · go_enter Tryd.func76, Tryd.ntmps76
    go_wp2
    go_ret
    exact ⟨ret_bool (decide_eq_true (.inl h1)).symm, rfl⟩
  · by_cases h2 : (1099511627776 : Int) < h
    · go_enter Tryd.func76, Tryd.ntmps76
      go_wp2
      go_ret
      exact ⟨ret_bool (decide_eq_true (.inr h2)).symm, rfl⟩
    · go_enter Tryd.func76, Tryd.ntmps76
      go_wp2
      go_ret
      exact ⟨ret_bool (decide_eq_false (fun h => by omega)).symm, rfl⟩

/-- the index that is found, or none -/
def IxhPost (w : World) (b : Bool) (e : Ending) (w' : World) : Prop := ∃ z : Int, e = .returned (.int .i64 z) ∧ (0 ≤ z ↔ b = true) ∧ w' = w

set_option maxRecDepth 100000 in
set_option maxHeartbeats 1000000 in
theorem indexHfar_any (a : Option Addr) (cap : Nat) (l : List Int) (m : Nat) (hm : Hid (l.length = m)) (hm2 : m ≤ 1000000) (b : Bool) (hb : Hid (l.any Pl.hfar = b)) (w : World) (hl : Hid (NsAt w a l)) :
    Calls Tryd.prog 97 #[.slice a m cap, .func (.func 76) #[] #[]] w (IxhPost w b) := by
  go_enter Tryd.func97, Tryd.ntmps97
  go_wp2
  go_loopw [8] (fun i wr => ∃ k : Nat, k ≤ m ∧ i = .int .i64 k ∧ wr = w ∧ Hid (l.any Pl.hfar = (l.drop k).any Pl.hfar)) (fun i _ => m - (RowKit.intOf i).toNat)
  case atStart => exact ⟨0, Nat.zero_le _, rfl, rfl, Lib.hid rfl⟩
  case round =>
    obtain ⟨k, hk, rfl, rfl, hany⟩ := hrel
    by_cases hlt : k < m
    · obtain ⟨x, rfl, hcx⟩ := hl.out k (by have := hm.out; omega)
      have hst := any_atH (l := l) (k := k) (by have := hm.out; omega)
      obtain ⟨z, hz⟩ : ∃ z, l.getD k 0 = z := ⟨_, rfl⟩
      rw [hz] at hcx hst
      clear hz
      have hi5 : (k : Int) < (m : Int) := by omega
      have HV := hfar_any z
      cases hv : Pl.hfar z
      · rw [hv] at HV hst
        replace HV := Lib.hid HV
        replace hst := Lib.hid hst
        go_wp2_with fail
        refine (HV.out _).mono ?_
        rintro e w1 ⟨rfl, hb1⟩
        subst hb1
        go_wp2
        go_roundw
        case rel => exact ⟨k + 1, by omega, by go_num, by first | rfl | trivial, Lib.hid (by rw [hany.out, hst.out]; simp)⟩
        case measure => first | (simp [RowKit.intOf]; done) | (simp [RowKit.intOf]; omega) | omega
      · rw [hv] at HV hst
        replace HV := Lib.hid HV
        replace hst := Lib.hid hst
        go_wp2_with fail
        refine (HV.out _).mono ?_
        rintro e w1 ⟨rfl, hb1⟩
        subst hb1
        go_wp2
        go_ret
        exact ⟨_, rfl, by rw [← hb.out, hany.out, hst.out]; simp, rfl⟩
    · obtain rfl : k = m := by omega
      have hi5 : ¬ (k : Int) < (k : Int) := by omega
      have hb9 : Hid (l.any Pl.hfar = false) := Lib.hid (by rw [hany.out, List.drop_eq_nil_of_le (by have := hm.out; omega)]; rfl)
      clear hany
      go_wp2
      go_ret
      exact ⟨-1, rfl, by rw [← hb.out, hb9.out]; simp, rfl⟩

set_option maxHeartbeats 400000 in
theorem containsHfar_any (a : Option Addr) (cap : Nat) (l : List Int) (m : Nat) (hm : Hid (l.length = m)) (hm2 : m ≤ 1000000) (w : World) (hl : Hid (NsAt w a l)) :
    Calls Tryd.prog 75 #[.slice a m cap, .func (.func 76) #[] #[]] w fun e w' => e = .returned (.bool (l.any Pl.hfar)) ∧ w' = w := by
  obtain ⟨b, hb⟩ : ∃ b, l.any Pl.hfar = b := ⟨_, rfl⟩
  rw [hb]
  have H := indexHfar_any a cap l m hm hm2 b (Lib.hid hb) w hl
  clear hb hl
  go_enter Tryd.func75, Tryd.ntmps75
  go_wp2_with fail
  refine H.mono ?_
  rintro e w1 ⟨z, rfl, hz, rfl⟩
  replace hz := Lib.hid hz
  go_wp2
  go_ret
  refine ⟨ret_bool ?_, rfl⟩
  have h := hz.out
  cases b
  · simp at h
    rw [decide_eq_false (by omega)]
  · simp at h
    rw [decide_eq_true (by omega)]

set_option maxRecDepth 100000 in
set_option maxHeartbeats 1000000 in
/-- validHeights -/
theorem pHeights_any (a : Option Addr) (cap : Nat) (l : List Int) (n : Int) (m : Nat) (hm : Hid (l.length = m)) (hm2 : m ≤ 1000000) (w : World) (hl : Hid (NsAt w a l)) :
    Calls Tryd.prog 43 #[.slice a m cap, .int .i64 n] w fun e w' => e = .returned (.bool (decide ((m : Int) = n) && !l.any Pl.hfar)) ∧ w' = w := by
  have HC := containsHfar_any a cap l m hm hm2
  by_cases h1 : (m : Int) = n
  · have n1 : ((m : Int) == n) = true := by simpa using h1
    rw [decide_eq_true h1]
    generalize l.any Pl.hfar = fb at *
    replace HC := Lib.hid HC
    subst h1
    go_enter Tryd.func43, Tryd.ntmps43
    go_wp2_with fail
    refine (HC.out _ hl).mono ?_
    rintro e w1 ⟨rfl, hw1⟩
    subst hw1
    go_wp2
    go_ret
    exact ⟨by cases fb <;> rfl, rfl⟩
  · have n1 : ((m : Int) == n) = false := by simpa using h1
    rw [decide_eq_false h1]
    clear HC
    go_enter Tryd.func43, Tryd.ntmps43
    go_wp2
    go_ret
    exact ⟨rfl, rfl⟩
end Go.Proofs.YtidcedilfhmllaaDoor
