/- What the claims of layer 2 share, part 4: several texts one behind the other. -/
import Derived.BigQuiet
import Derived.Test.YtmkjmpkicmadcaaDoorZ03
set_option linter.unusedSimpArgs false
set_option linter.unusedVariables false
/- Contracts of package plate: follow. -/
namespace Go.Proofs.YtmkjmpkicmadcaaDoor
open Go.RowKit

/-- a list of numbers, wherever it lies -/
def NsAt (w : World) (a : Option Addr) (l : List Int) : Prop := ∀ k, k < l.length → ∃ x, a = some x ∧ w.cell? (x.add k) = some (.int .i64 (l.getD k 0))
theorem NsAt.below {w W : World} {a : Option Addr} {l : List Int} (h : NsAt w a l) (hb : Below w.heap.size w W) : NsAt W a l := fun k hk => by
  obtain ⟨x, rfl, hx⟩ := h k hk
  exact ⟨x, rfl, kept1 hx hb⟩
theorem getD_in {l : List Int} {k : Nat} (h : k < l.length) : l.getD k 0 ∈ l := by
  simp [List.getD, List.getElem?_eq_getElem h]
theorem drop_at {l : List Int} {k : Nat} (h : k < l.length) : l.drop k = l.getD k 0 :: l.drop (k + 1) := by
  rw [List.drop_eq_getElem_cons h]
  simp [List.getD, List.getElem?_eq_getElem h]
/-- what follow and advance return -/
def rsV : Option Pl.St → Array Value
  | some y => #[stV y, .bool true]
  | none => #[.agg #[.int .i64 0, .int .i64 0, .bool false], .bool false]
/-- a state in a box of its own -/
def SA (W : World) (b : Nat) (y : Pl.St) : Prop := W.rowIs b 80 3 (fun i => if i = 0 then .int .i64 y.p else if i = 1 then .int .i64 (y.t : Int) else .bool y.m)
theorem SA.below {W W' : World} {b : Nat} {y : Pl.St} (h : SA W b y) (hb : Below W.heap.size W W') : SA W' b y := Below.row' hb h
theorem SA.set {W : World} {b : Nat} {y : Pl.St} (h : SA W b y) (z : Pl.St) : SA (((W.setCell ⟨b, 0, none⟩ (.int .i64 z.p)).setCell ⟨b, 1, none⟩ (.int .i64 (z.t : Int))).setCell ⟨b, 2, none⟩ (.bool z.m)) b z :=
  (((World.rowIs.set h 0 _).set 1 _).set 2 _).congr (fun i hi => by
    have : i = 0 ∨ i = 1 ∨ i = 2 := by omega
    rcases this with rfl | rfl | rfl <;> simp)

theorem sa_new (X : World) (y : Pl.St) : SA (X.alloc (Obj.cells #[.int .i64 y.p, .int .i64 (y.t : Int), .bool y.m] 80)) X.heap.size y :=
  World.rowIs_alloc X _ _ _ (fun i hi => by
    match i, hi with
    | 0, _ => rfl
    | 1, _ => rfl
    | 2, _ => rfl)
theorem far3c {Z : World} {b c i : Nat} {v u0 u1 u2 : Value} (h : Z.cell? ⟨c, i, none⟩ = some v) (hbc : c ≠ b) : (((Z.setCell ⟨b, 0, none⟩ u0).setCell ⟨b, 1, none⟩ u1).setCell ⟨b, 2, none⟩ u2).cell? ⟨c, i, none⟩ = some v := by
  simp [go_sem, h, hbc, hbc.symm]
theorem far3 {Z : World} {b c : Nat} {y : Pl.St} {u0 u1 u2 : Value} (h : SA Z c y) (hbc : c < b) : SA (((Z.setCell ⟨b, 0, none⟩ u0).setCell ⟨b, 1, none⟩ u1).setCell ⟨b, 2, none⟩ u2) c y :=
  World.rowIs.of_block h (((((Below.refl (c + 1) Z).setCell (p := ⟨b, 0, none⟩) hbc _).setCell (p := ⟨b, 1, none⟩) hbc _).setCell (p := ⟨b, 2, none⟩) hbc _).block c (Nat.lt_succ_self c))

set_option maxRecDepth 100000 in
set_option maxHeartbeats 4000000 in
theorem pFollow_any (s m : Int) (a : Option Addr) (q cap : Nat) (L : List Pl.Wk) (hq : L.length = q) (hq2 : q ≤ 16) (hok : Hid (Pl.Ok m L)) (p : Int) (x : Option Addr) (n cap2 : Nat) (l : List Int) (hn : Hid (l.length = n)) (hn2 : n ≤ 96)
    (hix : Hid (∀ k ∈ l, k ∈ Pl.stps q)) (w : World) (hL : Hid (WksAt w a L)) (hl : Hid (NsAt w x l)) :
    Calls Tryd.prog 41 #[.agg #[.int .i64 s, .int .i64 m, .slice a q cap], .int .i64 p, .slice x n cap2] w fun e w' => e = .returned (.tuple (rsV (Pl.runs (Pl.adv L) ⟨p, 0, false⟩ l))) ∧ Below w.heap.size w w' := by
  obtain ⟨R, hR⟩ : ∃ R, rsV (Pl.runs (Pl.adv L) ⟨p, 0, false⟩ l) = R := ⟨_, rfl⟩
  rw [hR]
  replace hR := Lib.hid hR
  go_enter Tryd.func41, Tryd.ntmps41
  go_wp2
  have k0 : (((w.alloc (Obj.cells #[.int .i64 s, .int .i64 m, .slice a q cap] 34)).alloc (Obj.cells #[.int .i64 0, .int .i64 0, .bool false] 80)).alloc (Obj.cells #[.int .i64 p, .int .i64 0, .bool false] 80)).cell? ⟨w.heap.size, 0, none⟩ = some (.int .i64 s) := by simp [go_sem]
  have k1 : (((w.alloc (Obj.cells #[.int .i64 s, .int .i64 m, .slice a q cap] 34)).alloc (Obj.cells #[.int .i64 0, .int .i64 0, .bool false] 80)).alloc (Obj.cells #[.int .i64 p, .int .i64 0, .bool false] 80)).cell? ⟨w.heap.size, 1, none⟩ = some (.int .i64 m) := by simp [go_sem]
  have k2 : (((w.alloc (Obj.cells #[.int .i64 s, .int .i64 m, .slice a q cap] 34)).alloc (Obj.cells #[.int .i64 0, .int .i64 0, .bool false] 80)).alloc (Obj.cells #[.int .i64 p, .int .i64 0, .bool false] 80)).cell? ⟨w.heap.size, 2, none⟩ = some (.slice a q cap) := by simp [go_sem]
  have r1 : SA (((w.alloc (Obj.cells #[.int .i64 s, .int .i64 m, .slice a q cap] 34)).alloc (Obj.cells #[.int .i64 0, .int .i64 0, .bool false] 80)).alloc (Obj.cells #[.int .i64 p, .int .i64 0, .bool false] 80)) (w.heap.size + 1) ⟨0, 0, false⟩ := by
    have h : SA ((w.alloc (Obj.cells #[.int .i64 s, .int .i64 m, .slice a q cap] 34)).alloc (Obj.cells #[.int .i64 0, .int .i64 0, .bool false] 80)) (w.heap.size + 1) ⟨0, 0, false⟩ := by
      have h := sa_new (w.alloc (Obj.cells #[.int .i64 s, .int .i64 m, .slice a q cap] 34)) ⟨0, 0, false⟩
      simpa using h
    exact h.below (below_alloc (Below.refl _ _) _)
  have r2 : SA (((w.alloc (Obj.cells #[.int .i64 s, .int .i64 m, .slice a q cap] 34)).alloc (Obj.cells #[.int .i64 0, .int .i64 0, .bool false] 80)).alloc (Obj.cells #[.int .i64 p, .int .i64 0, .bool false] 80)) (w.heap.size + 1 + 1) ⟨p, 0, false⟩ := by
    have h := sa_new ((w.alloc (Obj.cells #[.int .i64 s, .int .i64 m, .slice a q cap] 34)).alloc (Obj.cells #[.int .i64 0, .int .i64 0, .bool false] 80)) ⟨p, 0, false⟩
    simpa using h
  have hbw : Below w.heap.size w (((w.alloc (Obj.cells #[.int .i64 s, .int .i64 m, .slice a q cap] 34)).alloc (Obj.cells #[.int .i64 0, .int .i64 0, .bool false] 80)).alloc (Obj.cells #[.int .i64 p, .int .i64 0, .bool false] 80)) := below_alloc (below_alloc (below_alloc (Below.refl _ _) _) _) _
  generalize ((w.alloc (Obj.cells #[.int .i64 s, .int .i64 m, .slice a q cap] 34)).alloc (Obj.cells #[.int .i64 0, .int .i64 0, .bool false] 80)).alloc (Obj.cells #[.int .i64 p, .int .i64 0, .bool false] 80) = X at *
  go_loopw [17] (fun i wr => ∃ (k : Nat) (pp : Int) (t : Nat) (mm : Bool), k ≤ n ∧ i = .int .i64 k ∧ t < 8 ∧ wr.cell? ⟨w.heap.size, 0, none⟩ = some (.int .i64 s) ∧ wr.cell? ⟨w.heap.size, 1, none⟩ = some (.int .i64 m) ∧ wr.cell? ⟨w.heap.size, 2, none⟩ = some (.slice a q cap) ∧ SA wr (w.heap.size + 1) ⟨0, 0, false⟩ ∧ SA wr (w.heap.size + 1 + 1) ⟨pp, t, mm⟩ ∧ Below w.heap.size w wr ∧ Hid (rsV (Pl.runs (Pl.adv L) ⟨pp, t, mm⟩ (l.drop k)) = R)) (fun i _ => n - (RowKit.intOf i).toNat)
  case atStart => exact ⟨0, p, 0, false, Nat.zero_le _, rfl, by omega, k0, k1, k2, r1, r2, hbw, hR⟩
  case round =>
    clear hbw k0 k1 k2 r1 r2 hR
    clear X
    obtain ⟨k, pp, t, mm, hk, rfl, ht, k0, k1, k2, r1, r2, hb, hfo⟩ := hrel
    have e0 : wr.cell? ⟨w.heap.size + 1 + 1, 0, none⟩ = some (.int .i64 pp) := World.rowIs.cell r2 (i := 0) (by omega)
    have e1 : wr.cell? ⟨w.heap.size + 1 + 1, 1, none⟩ = some (.int .i64 (t : Int)) := World.rowIs.cell r2 (i := 1) (by omega)
    have e2 : wr.cell? ⟨w.heap.size + 1 + 1, 2, none⟩ = some (.bool mm) := World.rowIs.cell r2 (i := 2) (by omega)
    by_cases hlt : k < n
    · have hkl : k < l.length := by have := hn.out; omega
      obtain ⟨x', rfl, hcx⟩ := hl.out k hkl
      have hc0 := (hb.cell (block_lt_of_cell hcx)).trans hcx
      have hin := hix.out (l.getD k 0) (getD_in hkl)
      have hst : Hid (R = rsV ((Pl.adv L ⟨pp, t, mm⟩ (l.getD k 0)).bind fun b => Pl.runs (Pl.adv L) b (l.drop (k + 1)))) := Lib.hid (by
        rw [← hfo.out, drop_at hkl]
        rfl)
      obtain ⟨g, hg⟩ : ∃ g, l.getD k 0 = g := ⟨_, rfl⟩
      rw [hg] at hc0 hin hst
      have hin2 := Pl.mem_stps.1 hin
      have HA := advance_any s m a q cap L hq hq2 hok pp t mm ht g hin2.1 hin2.2 wr (Lib.hid (hL.out.below hb))
      have hai := fun z => Pl.adv_in hok.out (s := ⟨pp, t, mm⟩) (y := z) (k := g) (by rw [hq]; exact hin) ht
      clear hcx hg hfo hin hin2
      have hi5 : (k : Int) < (n : Int) := by omega
      have hn5 : (n : Int) ≤ 96 := by omega
      cases ha : Pl.adv L ⟨pp, t, mm⟩ g with
      | none =>
        rw [ha] at HA hst
        have hst2 : R = #[.agg #[.int .i64 0, .int .i64 0, .bool false], .bool false] := by rw [hst.out]; rfl
        subst hst2
        clear hst hai ha
        replace HA := Lib.hid HA
        go_wp2_with fail
        refine HA.out.mono ?_
        rintro e w2 ⟨rfl, hb2⟩
        have bZ : Below w.heap.size w (w2.alloc (Obj.cells #[.int .i64 0, .int .i64 0, .bool false] 80)) := below_alloc (hb.trans (hb2.mono hb.size)) _
        have rZ1 : SA (w2.alloc (Obj.cells #[.int .i64 0, .int .i64 0, .bool false] 80)) (w.heap.size + 1) ⟨0, 0, false⟩ := r1.below (below_alloc hb2 _)
        go_upto_region 7 with fail
        generalize w2.alloc (Obj.cells #[.int .i64 0, .int .i64 0, .bool false] 80) = Z at *
        have t0 : Z.cell? ⟨w.heap.size + 1, 0, none⟩ = some (.int .i64 0) := World.rowIs.cell rZ1 (i := 0) (by omega)
        have t1 : Z.cell? ⟨w.heap.size + 1, 1, none⟩ = some (.int .i64 0) := World.rowIs.cell rZ1 (i := 1) (by omega)
        have t2 : Z.cell? ⟨w.heap.size + 1, 2, none⟩ = some (.bool false) := World.rowIs.cell rZ1 (i := 2) (by omega)
        have z0 := World.rowIs.frozen rZ1 0
        have z1 := World.rowIs.frozen rZ1 1
        have z2 := World.rowIs.frozen rZ1 2
        have hS : SA (((Z.setCell ⟨w.heap.size + 1, 0, none⟩ (.int .i64 0)).setCell ⟨w.heap.size + 1, 1, none⟩ (.int .i64 0)).setCell ⟨w.heap.size + 1, 2, none⟩ (.bool false)) (w.heap.size + 1) ⟨0, 0, false⟩ := SA.set rZ1 ⟨0, 0, false⟩
        have hq0 : (((Z.setCell ⟨w.heap.size + 1, 0, none⟩ (.int .i64 0)).setCell ⟨w.heap.size + 1, 1, none⟩ (.int .i64 0)).setCell ⟨w.heap.size + 1, 2, none⟩ (.bool false)).cell? ⟨w.heap.size + 1, 0, none⟩ = some (.int .i64 0) := World.rowIs.cell hS (i := 0) (by omega)
        have hq1 : (((Z.setCell ⟨w.heap.size + 1, 0, none⟩ (.int .i64 0)).setCell ⟨w.heap.size + 1, 1, none⟩ (.int .i64 0)).setCell ⟨w.heap.size + 1, 2, none⟩ (.bool false)).cell? ⟨w.heap.size + 1, 1, none⟩ = some (.int .i64 0) := World.rowIs.cell hS (i := 1) (by omega)
        have hq2 : (((Z.setCell ⟨w.heap.size + 1, 0, none⟩ (.int .i64 0)).setCell ⟨w.heap.size + 1, 1, none⟩ (.int .i64 0)).setCell ⟨w.heap.size + 1, 2, none⟩ (.bool false)).cell? ⟨w.heap.size + 1, 2, none⟩ = some (.bool false) := World.rowIs.cell hS (i := 2) (by omega)
        have hZ : Below w.heap.size w (((Z.setCell ⟨w.heap.size + 1, 0, none⟩ (.int .i64 0)).setCell ⟨w.heap.size + 1, 1, none⟩ (.int .i64 0)).setCell ⟨w.heap.size + 1, 2, none⟩ (.bool false)) := ((bZ.setCell (p := ⟨w.heap.size + 1, 0, none⟩) (by show w.heap.size ≤ w.heap.size + 1; omega) _).setCell (p := ⟨w.heap.size + 1, 1, none⟩) (by show w.heap.size ≤ w.heap.size + 1; omega) _).setCell (p := ⟨w.heap.size + 1, 2, none⟩) (by show w.heap.size ≤ w.heap.size + 1; omega) _
        go_wp2
        generalize ((Z.setCell ⟨w.heap.size + 1, 0, none⟩ (.int .i64 0)).setCell ⟨w.heap.size + 1, 1, none⟩ (.int .i64 0)).setCell ⟨w.heap.size + 1, 2, none⟩ (.bool false) = V at *
        refine bodyPost_ret (v := .tuple #[.agg #[.int .i64 0, .int .i64 0, .bool false], .bool false]) (by simp [results, Tryd.results41, go_sem, hq0, hq1, hq2]) rfl ?_
        exact ⟨rfl, hZ⟩
      | some Y =>
        obtain ⟨p2, t2, m2⟩ := Y
        have ht2 : t2 < 8 := (hai _ ha).2
        rw [ha] at HA hst
        have hst2 : Hid (rsV (Pl.runs (Pl.adv L) ⟨p2, t2, m2⟩ (l.drop (k + 1))) = R) := Lib.hid (by rw [hst.out]; rfl)
        clear hst hai ha
        simp only [stV] at HA
        replace HA := Lib.hid HA
        go_wp2_with fail
        refine HA.out.mono ?_
        rintro e w2 ⟨rfl, hb2⟩
        have bZ : Below w.heap.size w (w2.alloc (Obj.cells #[.int .i64 p2, .int .i64 (t2 : Int), .bool m2] 80)) := below_alloc (hb.trans (hb2.mono hb.size)) _
        have hbZ : Below wr.heap.size wr (w2.alloc (Obj.cells #[.int .i64 p2, .int .i64 (t2 : Int), .bool m2] 80)) := below_alloc hb2 _
        have rS : SA (w2.alloc (Obj.cells #[.int .i64 p2, .int .i64 (t2 : Int), .bool m2] 80)) w2.heap.size ⟨p2, t2, m2⟩ := sa_new w2 ⟨p2, t2, m2⟩
        go_upto_region 8 with fail
        generalize w2.alloc (Obj.cells #[.int .i64 p2, .int .i64 (t2 : Int), .bool m2] 80) = Z at *
        generalize w2.heap.size = sb at *
        replace k0 := kept1 k0 hbZ
        replace k1 := kept1 k1 hbZ
        replace k2 := kept1 k2 hbZ
        replace r1 := r1.below hbZ
        replace r2 := r2.below hbZ
        clear e0 e1 e2
        have s0 : Z.cell? ⟨sb, 0, none⟩ = some (.int .i64 p2) := World.rowIs.cell rS (i := 0) (by omega)
        have s1 : Z.cell? ⟨sb, 1, none⟩ = some (.int .i64 (t2 : Int)) := World.rowIs.cell rS (i := 1) (by omega)
        have s2 : Z.cell? ⟨sb, 2, none⟩ = some (.bool m2) := World.rowIs.cell rS (i := 2) (by omega)
        have t0 : Z.cell? ⟨w.heap.size + 1 + 1, 0, none⟩ = some (.int .i64 pp) := World.rowIs.cell r2 (i := 0) (by omega)
        have t1 : Z.cell? ⟨w.heap.size + 1 + 1, 1, none⟩ = some (.int .i64 (t : Int)) := World.rowIs.cell r2 (i := 1) (by omega)
        have t2' : Z.cell? ⟨w.heap.size + 1 + 1, 2, none⟩ = some (.bool mm) := World.rowIs.cell r2 (i := 2) (by omega)
        have z0 := World.rowIs.frozen r2 0
        have z1 := World.rowIs.frozen r2 1
        have z2 := World.rowIs.frozen r2 2
        have hS : SA (((Z.setCell ⟨w.heap.size + 1 + 1, 0, none⟩ (.int .i64 p2)).setCell ⟨w.heap.size + 1 + 1, 1, none⟩ (.int .i64 (t2 : Int))).setCell ⟨w.heap.size + 1 + 1, 2, none⟩ (.bool m2)) (w.heap.size + 1 + 1) ⟨p2, t2, m2⟩ := SA.set r2 ⟨p2, t2, m2⟩
        have hS1 : SA (((Z.setCell ⟨w.heap.size + 1 + 1, 0, none⟩ (.int .i64 p2)).setCell ⟨w.heap.size + 1 + 1, 1, none⟩ (.int .i64 (t2 : Int))).setCell ⟨w.heap.size + 1 + 1, 2, none⟩ (.bool m2)) (w.heap.size + 1) ⟨0, 0, false⟩ := far3 r1 (by omega)
        have hk0 : (((Z.setCell ⟨w.heap.size + 1 + 1, 0, none⟩ (.int .i64 p2)).setCell ⟨w.heap.size + 1 + 1, 1, none⟩ (.int .i64 (t2 : Int))).setCell ⟨w.heap.size + 1 + 1, 2, none⟩ (.bool m2)).cell? ⟨w.heap.size, 0, none⟩ = some (.int .i64 s) := far3c k0 (by omega)
        have hk1 : (((Z.setCell ⟨w.heap.size + 1 + 1, 0, none⟩ (.int .i64 p2)).setCell ⟨w.heap.size + 1 + 1, 1, none⟩ (.int .i64 (t2 : Int))).setCell ⟨w.heap.size + 1 + 1, 2, none⟩ (.bool m2)).cell? ⟨w.heap.size, 1, none⟩ = some (.int .i64 m) := far3c k1 (by omega)
        have hk2 : (((Z.setCell ⟨w.heap.size + 1 + 1, 0, none⟩ (.int .i64 p2)).setCell ⟨w.heap.size + 1 + 1, 1, none⟩ (.int .i64 (t2 : Int))).setCell ⟨w.heap.size + 1 + 1, 2, none⟩ (.bool m2)).cell? ⟨w.heap.size, 2, none⟩ = some (.slice a q cap) := far3c k2 (by omega)
        have hZ : Below w.heap.size w (((Z.setCell ⟨w.heap.size + 1 + 1, 0, none⟩ (.int .i64 p2)).setCell ⟨w.heap.size + 1 + 1, 1, none⟩ (.int .i64 (t2 : Int))).setCell ⟨w.heap.size + 1 + 1, 2, none⟩ (.bool m2)) := ((bZ.setCell (p := ⟨w.heap.size + 1 + 1, 0, none⟩) (by show w.heap.size ≤ w.heap.size + 1 + 1; omega) _).setCell (p := ⟨w.heap.size + 1 + 1, 1, none⟩) (by show w.heap.size ≤ w.heap.size + 1 + 1; omega) _).setCell (p := ⟨w.heap.size + 1 + 1, 2, none⟩) (by show w.heap.size ≤ w.heap.size + 1 + 1; omega) _
        go_wp2
        go_roundw
        case rel => exact ⟨k + 1, p2, t2, m2, by omega, by go_num, ht2, hk0, hk1, hk2, hS1, hS, hZ, hst2⟩
        case measure => first | (simp [RowKit.intOf]; done) | (simp [RowKit.intOf]; omega) | omega
    · obtain rfl : k = n := by omega
      have hi5 : ¬ (k : Int) < (k : Int) := by omega
      have hst2 : R = #[.agg #[.int .i64 pp, .int .i64 (t : Int), .bool mm], .bool true] := by rw [← hfo.out, List.drop_eq_nil_of_le (by have := hn.out; omega)]; rfl
      subst hst2
      clear hfo
      have t0 : wr.cell? ⟨w.heap.size + 1, 0, none⟩ = some (.int .i64 0) := World.rowIs.cell r1 (i := 0) (by omega)
      have t1 : wr.cell? ⟨w.heap.size + 1, 1, none⟩ = some (.int .i64 0) := World.rowIs.cell r1 (i := 1) (by omega)
      have t2 : wr.cell? ⟨w.heap.size + 1, 2, none⟩ = some (.bool false) := World.rowIs.cell r1 (i := 2) (by omega)
      have z0 := World.rowIs.frozen r1 0
      have z1 := World.rowIs.frozen r1 1
      have z2 := World.rowIs.frozen r1 2
      have hS : SA (((wr.setCell ⟨w.heap.size + 1, 0, none⟩ (.int .i64 pp)).setCell ⟨w.heap.size + 1, 1, none⟩ (.int .i64 (t : Int))).setCell ⟨w.heap.size + 1, 2, none⟩ (.bool mm)) (w.heap.size + 1) ⟨pp, t, mm⟩ := SA.set r1 ⟨pp, t, mm⟩
      have hq0 : (((wr.setCell ⟨w.heap.size + 1, 0, none⟩ (.int .i64 pp)).setCell ⟨w.heap.size + 1, 1, none⟩ (.int .i64 (t : Int))).setCell ⟨w.heap.size + 1, 2, none⟩ (.bool mm)).cell? ⟨w.heap.size + 1, 0, none⟩ = some (.int .i64 pp) := World.rowIs.cell hS (i := 0) (by omega)
      have hq1 : (((wr.setCell ⟨w.heap.size + 1, 0, none⟩ (.int .i64 pp)).setCell ⟨w.heap.size + 1, 1, none⟩ (.int .i64 (t : Int))).setCell ⟨w.heap.size + 1, 2, none⟩ (.bool mm)).cell? ⟨w.heap.size + 1, 1, none⟩ = some (.int .i64 (t : Int)) := World.rowIs.cell hS (i := 1) (by omega)
      have hq2 : (((wr.setCell ⟨w.heap.size + 1, 0, none⟩ (.int .i64 pp)).setCell ⟨w.heap.size + 1, 1, none⟩ (.int .i64 (t : Int))).setCell ⟨w.heap.size + 1, 2, none⟩ (.bool mm)).cell? ⟨w.heap.size + 1, 2, none⟩ = some (.bool mm) := World.rowIs.cell hS (i := 2) (by omega)
      have hZ : Below w.heap.size w (((wr.setCell ⟨w.heap.size + 1, 0, none⟩ (.int .i64 pp)).setCell ⟨w.heap.size + 1, 1, none⟩ (.int .i64 (t : Int))).setCell ⟨w.heap.size + 1, 2, none⟩ (.bool mm)) := ((hb.setCell (p := ⟨w.heap.size + 1, 0, none⟩) (by show w.heap.size ≤ w.heap.size + 1; omega) _).setCell (p := ⟨w.heap.size + 1, 1, none⟩) (by show w.heap.size ≤ w.heap.size + 1; omega) _).setCell (p := ⟨w.heap.size + 1, 2, none⟩) (by show w.heap.size ≤ w.heap.size + 1; omega) _
      go_wp2
      generalize ((wr.setCell ⟨w.heap.size + 1, 0, none⟩ (.int .i64 pp)).setCell ⟨w.heap.size + 1, 1, none⟩ (.int .i64 (t : Int))).setCell ⟨w.heap.size + 1, 2, none⟩ (.bool mm) = V at *
      refine bodyPost_ret (v := .tuple #[.agg #[.int .i64 pp, .int .i64 (t : Int), .bool mm], .bool true]) (by simp [results, Tryd.results41, go_sem, hq0, hq1, hq2]) rfl ?_
      exact ⟨rfl, hZ⟩
end Go.Proofs.YtmkjmpkicmadcaaDoor

/- Contracts of the specification: SameInts. -/
namespace Go.Proofs.YtmkjmpkicmadcaaDoor
open Go.RowKit

set_option maxHeartbeats 400000 in
theorem pSameInts_len (a b : Option Addr) (p q c d : Nat) (h : ((p : Int) != (q : Int)) = true) (w : World) :
    Calls Tryd.prog 38 #[.slice a p c, .slice b q d] w fun e w' => e = .returned (.bool false) ∧ Below w.heap.size w w' := by
  go_enter Tryd.func38, Tryd.ntmps38
  go_wp2
  go_ret
  exact ⟨rfl, (by repeat (first | with_reducible exact Below.refl _ _ | with_reducible assumption | refine below_drewN ?_ _ | refine Below.drew ?_ | refine Below.alloc ?_ (by first | (simp; done) | (simp; omega) | omega) _ | refine Below.setCell ?_ (by first | (simp; done) | (simp; omega) | omega) _ | refine Below.trans ?_ (Below.mono (by assumption) (by first | (simp; done) | (simp; omega) | omega))))⟩

set_option maxRecDepth 100000 in
set_option maxHeartbeats 1000000 in
theorem pSameInts_loop (a b : Option Addr) (p c d : Nat) (l1 l2 : List Int) (h1 : Hid (l1.length = p)) (h2 : Hid (l2.length = p)) (hp : p ≤ 1000000) (R : Bool) (hR : Hid (decide (l1 = l2) = R)) (w : World) (hl1 : Hid (NsAt w a l1)) (hl2 : Hid (NsAt w b l2)) :
    Calls Tryd.prog 38 #[.slice a p c, .slice b p d] w fun e w' => e = .returned (.bool R) ∧ Below w.heap.size w w' := by
  go_enter Tryd.func38, Tryd.ntmps38
  go_wp2
  go_loopw [5] (fun i wr => ∃ k : Nat, k ≤ p ∧ i = .int .i64 k ∧ Below w.heap.size w wr ∧ Hid (∀ j, j < k → l1.getD j 0 = l2.getD j 0)) (fun i _ => p - (RowKit.intOf i).toNat)
  case atStart => exact ⟨0, Nat.zero_le _, rfl, Below.refl _ _, Lib.hid (fun j hj => by omega)⟩
  case round =>
    obtain ⟨k, hk, rfl, hb, hall⟩ := hrel
    by_cases hlt : k < p
    · obtain ⟨x, rfl, hx⟩ := hl1.out k (by have := h1.out; omega)
      obtain ⟨y, rfl, hy⟩ := hl2.out k (by have := h2.out; omega)
      have hx2 := (hb.cell (block_lt_of_cell hx)).trans hx
      have hy2 := (hb.cell (block_lt_of_cell hy)).trans hy
      obtain ⟨u, hu⟩ : ∃ u, l1.getD k 0 = u := ⟨_, rfl⟩
      obtain ⟨v, hv⟩ : ∃ v, l2.getD k 0 = v := ⟨_, rfl⟩
      rw [hu] at hx2
      rw [hv] at hy2
      replace hu := Lib.hid hu
      replace hv := Lib.hid hv
      clear hx hy
      have hi5 : (k : Int) < (p : Int) := by omega
      by_cases huv : u = v
      · subst huv
        go_wp2_with fail
        try go_region
        go_wp2
        go_roundw
        case rel => exact ⟨k + 1, by omega, by go_num, (by repeat (first | with_reducible exact Below.refl _ _ | with_reducible assumption | refine below_drewN ?_ _ | refine Below.drew ?_ | refine Below.alloc ?_ (by first | (simp; done) | (simp; omega) | omega) _ | refine Below.setCell ?_ (by first | (simp; done) | (simp; omega) | omega) _ | refine Below.trans ?_ (Below.mono (by assumption) (by first | (simp; done) | (simp; omega) | omega)))), Lib.hid (fun j hj => by
          rcases Nat.lt_or_ge j k with h | h
          · exact hall.out j h
          · obtain rfl : j = k := by omega
            rw [hu.out, hv.out])⟩
        case measure => first | (simp [RowKit.intOf]; done) | (simp [RowKit.intOf]; omega) | omega
      · have hne : (u != v) = true := by rw [bne_iff_ne]; exact huv
        have hR2 : Hid (R = false) := Lib.hid (by
          rw [← hR.out, decide_eq_false]
          intro e
          exact huv (by rw [← hu.out, ← hv.out, e]))
        clear hall
        go_wp2_with fail
        try go_region
        go_wp2
        go_ret
        exact ⟨by rw [hR2.out]; rfl, (by repeat (first | with_reducible exact Below.refl _ _ | with_reducible assumption | refine below_drewN ?_ _ | refine Below.drew ?_ | refine Below.alloc ?_ (by first | (simp; done) | (simp; omega) | omega) _ | refine Below.setCell ?_ (by first | (simp; done) | (simp; omega) | omega) _ | refine Below.trans ?_ (Below.mono (by assumption) (by first | (simp; done) | (simp; omega) | omega))))⟩
    · obtain rfl : k = p := by omega
      have hi5 : ¬ (k : Int) < (k : Int) := by omega
      have hR2 : Hid (R = true) := Lib.hid (by
        rw [← hR.out, decide_eq_true]
        refine List.ext_getElem (h1.out.trans h2.out.symm) (fun j hj1 hj2 => ?_)
        have := hall.out j (by have := h1.out; omega)
        simp only [List.getD, List.getElem?_eq_getElem hj1, List.getElem?_eq_getElem hj2, Option.getD_some] at this
        exact this)
      clear hall
      go_wp2
      go_ret
      exact ⟨by rw [hR2.out]; rfl, (by repeat (first | with_reducible exact Below.refl _ _ | with_reducible assumption | refine below_drewN ?_ _ | refine Below.drew ?_ | refine Below.alloc ?_ (by first | (simp; done) | (simp; omega) | omega) _ | refine Below.setCell ?_ (by first | (simp; done) | (simp; omega) | omega) _ | refine Below.trans ?_ (Below.mono (by assumption) (by first | (simp; done) | (simp; omega) | omega))))⟩

theorem pSameInts_any (a b : Option Addr) (c d : Nat) (l1 l2 : List Int) (hp : l1.length ≤ 1000000) (w : World) (hl1 : NsAt w a l1) (hl2 : NsAt w b l2) :
    Calls Tryd.prog 38 #[.slice a l1.length c, .slice b l2.length d] w fun e w' => e = .returned (.bool (decide (l1 = l2))) ∧ Below w.heap.size w w' := by
  by_cases h : l1.length = l2.length
  · have := pSameInts_loop a b l1.length c d l1 l2 (Lib.hid rfl) (Lib.hid h.symm) hp _ (Lib.hid rfl) w (Lib.hid hl1) (Lib.hid hl2)
    rw [← h]
    exact this
  · rw [decide_eq_false (fun e => h (by rw [e]))]
    exact pSameInts_len a b _ _ c d (by rw [bne_iff_ne]; omega) w

end Go.Proofs.YtmkjmpkicmadcaaDoor

/- Contracts of package plate: checkSteps. -/
namespace Pl
def okS (q : Nat) (g : Int) : Bool := ix (wof g) q
/-- checkSteps -/
def stc (q : Nat) (LS : List (List Int)) : Int := if LS.any (fun l => decide (96 < l.length)) then 2 else if LS.all (fun l => l.all (okS q)) then 0 else 1
end Pl
namespace Go.Proofs.YtmkjmpkicmadcaaDoor
open Go.RowKit

/-- lists of numbers, in a row -/
def LnAt (w : World) (a : Option Addr) (LS : List (List Int)) : Prop := ∀ k, k < LS.length → ∃ x b n c, a = some x ∧ w.cell? (x.add k) = some (.slice b n c) ∧ (LS.getD k []).length = n ∧ NsAt w b (LS.getD k [])
theorem LnAt.below {w W : World} {a : Option Addr} {l : List (List Int)} (h : LnAt w a l) (hb : Below w.heap.size w W) : LnAt W a l := fun k hk => by
  obtain ⟨x, b, n, c, rfl, hx, h1, h2⟩ := h k hk
  exact ⟨x, b, n, c, rfl, kept1 hx hb, h1, h2.below hb⟩
theorem drop_ats {l : List (List Int)} {k : Nat} (h : k < l.length) : l.drop k = l.getD k [] :: l.drop (k + 1) := by
  rw [List.drop_eq_getElem_cons h]
  simp [List.getD, List.getElem?_eq_getElem h]

set_option maxRecDepth 100000 in
set_option maxHeartbeats 4000000 in
theorem pSteps_any (s m : Int) (a : Option Addr) (q cap : Nat) (hq2 : q ≤ 16) (x : Option Addr) (n c : Nat) (LS : List (List Int)) (hn : Hid (LS.length = n)) (hn2 : n ≤ 4096)
    (hi : Hid (∀ l ∈ LS, ∀ g ∈ l, -9223372036854775808 ≤ g ∧ g ≤ 9223372036854775807)) (w : World) (hl : Hid (LnAt w x LS)) :
    Calls Tryd.prog 40 #[.agg #[.int .i64 s, .int .i64 m, .slice a q cap], .slice x n c] w fun e w' => e = .returned (.int .i64 (Pl.stc q LS)) ∧ Below w.heap.size w w' := by
  obtain ⟨R, hR⟩ : ∃ R, Pl.stc q LS = R := ⟨_, rfl⟩
  rw [hR]
  replace hR : Hid (R = if (LS.drop 0).any (fun l => decide (96 < l.length)) then 2 else if LS.all (fun l => l.all (Pl.okS q)) then 0 else 1) := Lib.hid hR.symm
  go_enter Tryd.func40, Tryd.ntmps40
  go_wp2
  have k2 : (w.alloc (Obj.cells #[.int .i64 s, .int .i64 m, .slice a q cap] 34)).cell? ⟨w.heap.size, 2, none⟩ = some (.slice a q cap) := by simp [go_sem]
  have hbw : Below w.heap.size w (w.alloc (Obj.cells #[.int .i64 s, .int .i64 m, .slice a q cap] 34)) := below_alloc (Below.refl _ _) _
  generalize w.alloc (Obj.cells #[.int .i64 s, .int .i64 m, .slice a q cap] 34) = X at *
  have hn5 : (n : Int) ≤ 4096 := by omega
  go_loopw [13] (fun i wr => ∃ k : Nat, k ≤ n ∧ i = .int .i64 k ∧ wr.cell? ⟨w.heap.size, 2, none⟩ = some (.slice a q cap) ∧ Below w.heap.size w wr ∧ Hid (∀ i, i < k → (LS.getD i []).length ≤ 96) ∧ Hid (R = if (LS.drop k).any (fun l => decide (96 < l.length)) then 2 else if LS.all (fun l => l.all (Pl.okS q)) then 0 else 1)) (fun i _ => n - (RowKit.intOf i).toNat)
  case atStart => exact ⟨0, Nat.zero_le _, rfl, k2, hbw, Lib.hid (fun i hi => by omega), hR⟩
  case round =>
    clear hbw k2 hR
    clear X
    obtain ⟨k, hk, rfl, k2, hb, hsh, hfo⟩ := hrel
    by_cases hlt : k < n
    · have hkl : k < LS.length := by have := hn.out; omega
      obtain ⟨x', b', n', c', rfl, hcx, hnl, _⟩ := hl.out k hkl
      have hc0 := (hb.cell (block_lt_of_cell hcx)).trans hcx
      have hst := hfo.out
      rw [drop_ats hkl, List.any_cons, hnl] at hst
      replace hst := Lib.hid hst
      have hnl2 := Lib.hid hnl
      clear hcx hnl hfo
      have hi5 : (k : Int) < (n : Int) := by omega
      by_cases h96 : 96 < n'
      · have h97 : (96 : Int) < (n' : Int) := by omega
        have hst2 : R = 2 := by rw [hst.out]; simp [h96]
        clear hst
        subst hst2
        go_wp2
        go_ret
        exact ⟨rfl, hb⟩
      · have h97 : ¬ (96 : Int) < (n' : Int) := by omega
        have hsh2 : Hid (∀ i, i < k + 1 → (LS.getD i []).length ≤ 96) := Lib.hid (fun i hi => by
          by_cases hik : i < k
          · exact hsh.out i hik
          · obtain rfl : i = k := by omega
            have := hnl2.out
            omega)
        clear hnl2 hsh
        have hst2 : Hid (R = if (LS.drop (k + 1)).any (fun l => decide (96 < l.length)) then 2 else if LS.all (fun l => l.all (Pl.okS q)) then 0 else 1) := Lib.hid (by rw [hst.out]; simp [h96])
        clear hst
        go_wp2
        go_roundw
        case rel => exact ⟨k + 1, by omega, by go_num, k2, hb, hsh2, hst2⟩
        case measure => first | (simp [RowKit.intOf]; done) | (simp [RowKit.intOf]; omega) | omega
    · obtain rfl : k = n := by omega
      have hi5 : ¬ (k : Int) < (k : Int) := by omega
      have hst : Hid (R = if (LS.drop 0).all (fun l => l.all (Pl.okS q)) then 0 else 1) := Lib.hid (by
        rw [hfo.out, List.drop_eq_nil_of_le (by have := hn.out; omega)]
        simp)
      clear hfo
      generalize wr = X0 at *
      clear wr
      go_wp2
      go_loopw [23] (fun i wr => ∃ j : Nat, j ≤ k ∧ i = .int .i64 j ∧ wr.cell? ⟨w.heap.size, 2, none⟩ = some (.slice a q cap) ∧ Below w.heap.size w wr ∧ Hid (R = if (LS.drop j).all (fun l => l.all (Pl.okS q)) then 0 else 1)) (fun i _ => k - (RowKit.intOf i).toNat)
      case atStart => exact ⟨0, Nat.zero_le _, rfl, k2, hb, hst⟩
      case round =>
        clear k2 hb hst hi5
        clear X0
        obtain ⟨j, hj, rfl, k2, hb, hfo⟩ := hrel
        by_cases hlt : j < k
        · have hkl : j < LS.length := by have := hn.out; omega
          obtain ⟨x', b', n', c', rfl, hcx, hnl, hns⟩ := hl.out j hkl
          have hc0 := (hb.cell (block_lt_of_cell hcx)).trans hcx
          have hst := hfo.out
          rw [drop_ats hkl, List.all_cons] at hst
          have hil := hi.out (LS.getD j []) (by simp [List.getD, List.getElem?_eq_getElem hkl])
          obtain ⟨l, hl5⟩ : ∃ l, LS.getD j [] = l := ⟨_, rfl⟩
          rw [hl5] at hst hnl hns hil
          have hn96 : n' ≤ 96 := by have := hsh.out j hlt; rw [hl5] at this; omega
          replace hil := Lib.hid hil
          replace hns := Lib.hid hns
          replace hnl := Lib.hid hnl
          have hst0 : Hid (R = if ((l.drop 0).all (Pl.okS q) && (LS.drop (j + 1)).all (fun l => l.all (Pl.okS q))) then 0 else 1) := Lib.hid hst
          clear hst hfo hcx hl5
          have hi5 : (j : Int) < (k : Int) := by omega
          go_wp2
          generalize wr = X1 at *
          clear wr
          go_loopw [29] (fun i wr => ∃ t : Nat, t ≤ n' ∧ i = .int .i64 t ∧ wr.cell? ⟨w.heap.size, 2, none⟩ = some (.slice a q cap) ∧ Below w.heap.size w wr ∧ Hid (R = if ((l.drop t).all (Pl.okS q) && (LS.drop (j + 1)).all (fun l => l.all (Pl.okS q))) then 0 else 1)) (fun i _ => n' - (RowKit.intOf i).toNat)
          case atStart => exact ⟨0, Nat.zero_le _, rfl, k2, hb, hst0⟩
          case round =>
            clear k2 hb hst0 hi5 hc0
            clear X1
            obtain ⟨t, ht, rfl, k2, hb, hfo⟩ := hrel
            by_cases hlt : t < n'
            · have htl : t < l.length := by have := hnl.out; omega
              obtain ⟨y', rfl, hcx⟩ := hns.out t htl
              have hc0 := (hb.cell (block_lt_of_cell hcx)).trans hcx
              have hgi := hil.out _ (getD_in htl)
              have hst := hfo.out
              rw [drop_at htl, List.all_cons] at hst
              obtain ⟨g, hg⟩ : ∃ g, l.getD t 0 = g := ⟨_, rfl⟩
              rw [hg] at hst hgi hc0
              have HW := Lib.hid (pWorkingOf_any g hgi.1 hgi.2)
              have HX := pIndex_any (Pl.wof g) (q : Int)
              have hi5 : (t : Int) < (n' : Int) := by omega
              have hn'5 : (n' : Int) ≤ 96 := by omega
              cases ho : Pl.okS q g
              · have hst2 : R = 1 := by rw [hst, ho]; rfl
                rw [show Pl.ix (Pl.wof g) q = false from ho] at HX
                replace HX := Lib.hid HX
                clear hst hfo hcx hg hgi ho
                subst hst2
                have S0 : wr.drew.cell? ⟨w.heap.size, 2, none⟩ = some (.slice a q cap) ∧ Below w.heap.size w wr.drew := ⟨k2, hb.drew⟩
                have S1 : wr.cell? ⟨w.heap.size, 2, none⟩ = some (.slice a q cap) ∧ Below w.heap.size w wr := ⟨k2, hb⟩
                go_upto_region 13 with fail
                go_region_held3 (fun w' => w'.cell? ⟨w.heap.size, 2, none⟩ = some (.slice a q cap) ∧ Below w.heap.size w w')
                  (first | with_reducible exact S0 | with_reducible assumption | with_reducible exact S1)
                  (first
                    | (with_reducible refine (HW.out _).mono ?_
                       rintro e wp ⟨he, hbp⟩
                       subst he
                       subst hbp)
                    | (with_reducible refine (HX.out _).mono ?_
                       rintro e wp ⟨he, hbp⟩
                       subst he
                       subst hbp))
                all_goals go_wp2
                all_goals go_ret
                all_goals exact ⟨rfl, S0.2⟩
              · have hst2 : Hid (R = if ((l.drop (t + 1)).all (Pl.okS q) && (LS.drop (j + 1)).all (fun l => l.all (Pl.okS q))) then 0 else 1) := Lib.hid (by rw [hst, ho]; rfl)
                rw [show Pl.ix (Pl.wof g) q = true from ho] at HX
                replace HX := Lib.hid HX
                clear hst hfo hcx hg hgi ho
                have S0 : wr.drew.cell? ⟨w.heap.size, 2, none⟩ = some (.slice a q cap) ∧ Below w.heap.size w wr.drew := ⟨k2, hb.drew⟩
                have S1 : wr.cell? ⟨w.heap.size, 2, none⟩ = some (.slice a q cap) ∧ Below w.heap.size w wr := ⟨k2, hb⟩
                go_upto_region 13 with fail
                go_region_held3 (fun w' => w'.cell? ⟨w.heap.size, 2, none⟩ = some (.slice a q cap) ∧ Below w.heap.size w w')
                  (first | with_reducible exact S0 | with_reducible assumption | with_reducible exact S1)
                  (first
                    | (with_reducible refine (HW.out _).mono ?_
                       rintro e wp ⟨he, hbp⟩
                       subst he
                       subst hbp)
                    | (with_reducible refine (HX.out _).mono ?_
                       rintro e wp ⟨he, hbp⟩
                       subst he
                       subst hbp))
                all_goals go_wp2
                all_goals go_roundw
                case rel => exact ⟨t + 1, by omega, by go_num, S0.1, S0.2, hst2⟩
                case measure => first | (simp [RowKit.intOf]; done) | (simp [RowKit.intOf]; omega) | omega
            · obtain rfl : t = n' := by omega
              have hi5 : ¬ (t : Int) < (t : Int) := by omega
              have hst2 : Hid (R = if (LS.drop (j + 1)).all (fun l => l.all (Pl.okS q)) then 0 else 1) := Lib.hid (by
                rw [hfo.out, List.drop_eq_nil_of_le (by have := hnl.out; omega)]
                simp)
              clear hfo
              have hjk : (j : Int) < (k : Int) := by omega
              go_wp2
              go_roundw
              case rel => exact ⟨j + 1, by omega, by go_num, k2, hb, hst2⟩
              case measure => first | (simp [RowKit.intOf]; done) | (simp [RowKit.intOf]; omega) | omega
        · obtain rfl : j = k := by omega
          have hi5 : ¬ (j : Int) < (j : Int) := by omega
          have hst2 : R = 0 := by
            rw [hfo.out, List.drop_eq_nil_of_le (by have := hn.out; omega)]
            simp
          clear hfo
          subst hst2
          go_wp2
          go_ret
          exact ⟨rfl, hb⟩
end Go.Proofs.YtmkjmpkicmadcaaDoor

/- Contracts of package plate: Follow (written by tools/genJm.py). -/
namespace Pl
/-- checkPlate -/
def cpl (s m : Int) (L : List Wk) (p : Int) : Int := if chk s m L ≠ 0 then chk s m L else if ix p m then 0 else 1
/-- Follow -/
def fol (s m : Int) (L : List Wk) (p : Int) (l : List Int) : St × Int :=
  if cpl s m L p ≠ 0 then (⟨0, 0, false⟩, cpl s m L p) else if stc L.length [l] ≠ 0 then (⟨0, 0, false⟩, stc L.length [l]) else
  match runs (adv L) ⟨p, 0, false⟩ l with
  | none => (⟨0, 0, false⟩, 8)
  | some y => (y, 0)
theorem cpl_ok {s m : Int} {L : List Wk} {p : Int} (h : cpl s m L p = 0) : chk s m L = 0 ∧ ix p m = true := by
  unfold cpl at h
  split at h
  · rename_i h1
    exact (h1 h).elim
  · rename_i h1
    refine ⟨Decidable.not_not.1 h1, ?_⟩
    split at h
    · assumption
    · cases h
theorem stc_ok {q : Nat} {LS : List (List Int)} (h : stc q LS = 0) : ∀ l ∈ LS, l.length ≤ 96 ∧ ∀ k ∈ l, k ∈ stps q := by
  unfold stc at h
  split at h
  · cases h
  · rename_i h1
    split at h
    · rename_i h2
      intro l hl
      refine ⟨?_, fun k hk => ?_⟩
      · rw [List.any_eq_true] at h1
        exact Nat.not_lt.1 fun h => h1 ⟨l, hl, decide_eq_true h⟩
      · have := List.all_eq_true.1 (List.all_eq_true.1 h2 l hl) k hk
        have := of_decide_eq_true this
        refine mem_stps.2 ?_
        unfold wof at this
        split at this <;> omega
    · cases h
end Pl
namespace Go.Proofs.YtmkjmpkicmadcaaDoor
open Go.RowKit

/-- a sign in a box of its own -/
def SgA (W : World) (b : Nat) (t : Nat) (m : Bool) : Prop := W.rowIs b 38 2 (fun i => if i = 0 then .int .i64 (t : Int) else .bool m)
theorem SgA.below {W W' : World} {b t : Nat} {m : Bool} (h : SgA W b t m) (hb : Below W.heap.size W W') : SgA W' b t m := Below.row' hb h
theorem SgA.set {W : World} {b t : Nat} {m : Bool} (h : SgA W b t m) (t' : Nat) (m' : Bool) : SgA ((W.setCell ⟨b, 0, none⟩ (.int .i64 (t' : Int))).setCell ⟨b, 1, none⟩ (.bool m')) b t' m' :=
  ((World.rowIs.set h 0 _).set 1 _).congr (fun i hi => by
    have : i = 0 ∨ i = 1 := by omega
    rcases this with rfl | rfl <;> simp)
theorem sga_new (X : World) (t : Nat) (m : Bool) : SgA (X.alloc (Obj.cells #[.int .i64 (t : Int), .bool m] 38)) X.heap.size t m :=
  World.rowIs_alloc X _ _ _ (fun i hi => by
    match i, hi with
    | 0, _ => rfl
    | 1, _ => rfl)
theorem ln_one {W : World} {b : Nat} {x : Option Addr} {n c : Nat} {l : List Int} (h : W.cell? ⟨b, 0, none⟩ = some (.slice x n c)) (hn : l.length = n) (hl : NsAt W x l) : LnAt W (some ⟨b, 0, none⟩) [l] := fun k hk => by
  obtain rfl : k = 0 := by simpa using hk
  exact ⟨_, x, n, c, rfl, h, hn, hl⟩

set_option maxRecDepth 100000 in
set_option maxHeartbeats 4000000 in
theorem pFollowP_any (s m : Int) (a : Option Addr) (cap : Nat) (L : List Pl.Wk) (p : Int) (x : Option Addr) (c : Nat) (l : List Int)
    (hi : Hid (∀ g ∈ l, -9223372036854775808 ≤ g ∧ g ≤ 9223372036854775807)) (w : World) (hL : Hid (WksAt w a L)) (hl : Hid (NsAt w x l)) :
    Calls Tryd.prog 15 #[shV s m a L.length cap, .int .i64 p, .slice x l.length c] w fun e w' => e = .returned (.tuple #[.int .i64 (Pl.fol s m L p l).1.p, .agg #[.int .i64 ((Pl.fol s m L p l).1.t : Int), .bool (Pl.fol s m L p l).1.m], .int .i64 (Pl.fol s m L p l).2]) ∧ Below w.heap.size w w' := by
  have HC := Lib.hid fun (W : World) (hb : Below w.heap.size w W) => checkPlate_any s m a cap L p W (Lib.hid (hL.out.below hb))
  obtain ⟨FP, FT, FM, FE, hF⟩ : ∃ FP FT FM FE, Pl.fol s m L p l = (⟨FP, FT, FM⟩, FE) := ⟨_, _, _, _, rfl⟩
  rw [hF]
  unfold Pl.fol at hF
  have hcp : (if Pl.chk s m L ≠ 0 then Pl.chk s m L else if Pl.ix p m then 0 else 1) = Pl.cpl s m L p := rfl
  rw [hcp] at HC
  have hok0 := fun h => Pl.cpl_ok (s := s) (m := m) (L := L) (p := p) h
  replace hok0 := Lib.hid hok0
  clear hcp
  generalize Pl.cpl s m L p = er at *
  obtain ⟨n, hn⟩ : ∃ n, l.length = n := ⟨_, rfl⟩
  obtain ⟨q, hq⟩ : ∃ q, L.length = q := ⟨_, rfl⟩
  rw [hq] at hF HC
  rw [hn, hq]
  unfold shV at *
  replace hF := Lib.hid hF
  replace hn := Lib.hid hn
  replace hq := Lib.hid hq
  go_enter Tryd.func15, Tryd.ntmps15
  go_upto_region 1 with fail

  have k0 : ((w.alloc (Obj.cells #[.int .i64 s, .int .i64 m, .slice a q cap] 34)).alloc (Obj.cells #[.int .i64 0, .bool false] 38)).cell? ⟨w.heap.size, 0, none⟩ = some (.int .i64 s) := by simp [go_sem]
  have k1 : ((w.alloc (Obj.cells #[.int .i64 s, .int .i64 m, .slice a q cap] 34)).alloc (Obj.cells #[.int .i64 0, .bool false] 38)).cell? ⟨w.heap.size, 1, none⟩ = some (.int .i64 m) := by simp [go_sem]
  have k2 : ((w.alloc (Obj.cells #[.int .i64 s, .int .i64 m, .slice a q cap] 34)).alloc (Obj.cells #[.int .i64 0, .bool false] 38)).cell? ⟨w.heap.size, 2, none⟩ = some (.slice a q cap) := by simp [go_sem]
  have r1 : SgA ((w.alloc (Obj.cells #[.int .i64 s, .int .i64 m, .slice a q cap] 34)).alloc (Obj.cells #[.int .i64 0, .bool false] 38)) (w.heap.size + 1) 0 false := by
    have h := sga_new (w.alloc (Obj.cells #[.int .i64 s, .int .i64 m, .slice a q cap] 34)) 0 false
    simpa using h
  have hbw : Below w.heap.size w ((w.alloc (Obj.cells #[.int .i64 s, .int .i64 m, .slice a q cap] 34)).alloc (Obj.cells #[.int .i64 0, .bool false] 38)) := below_alloc (below_alloc (Below.refl _ _) _) _
  generalize ((w.alloc (Obj.cells #[.int .i64 s, .int .i64 m, .slice a q cap] 34)).alloc (Obj.cells #[.int .i64 0, .bool false] 38)) = X at *
  go_wp2_with fail
  refine (HC.out _ hbw).mono ?_
  rintro e w1 ⟨rfl, hb1⟩
  replace k0 := kept1 k0 hb1
  replace k1 := kept1 k1 hb1
  replace k2 := kept1 k2 hb1
  replace r1 := r1.below hb1
  have hb2 : Below w.heap.size w w1 := hbw.trans (hb1.mono hbw.size)
  clear HC hbw hb1
  clear X
  by_cases h0 : er = 0
  · subst h0
    obtain ⟨hck, hpm⟩ := hok0.out rfl
    obtain ⟨_, _, hq16, hOk⟩ := Pl.chk_ok hck
    rw [hq.out] at hq16
    have hOk' := Lib.hid hOk
    clear hck hpm hok0 hOk
    have hF1 := hF.out
    rw [if_neg (by simp)] at hF1
    clear hF
    have hst0 := fun h => Pl.stc_ok (q := q) (LS := [l]) h l (List.mem_singleton.2 rfl)
    replace hst0 := Lib.hid hst0
    have HS := fun (W : World) (hb : Below w.heap.size w W) (nb : Nat) (hc : W.cell? ⟨nb, 0, none⟩ = some (.slice x n c)) => pSteps_any s m a q cap hq16 (some ⟨nb, 0, none⟩) 1 1 [l] (Lib.hid rfl) (by omega) (Lib.hid (fun l' hl' => by
      obtain rfl := List.mem_singleton.1 hl'
      exact hi.out)) W (Lib.hid (ln_one hc hn.out (hl.out.below hb)))
    have HFo := fun (hs : Pl.stc q [l] = 0) (W : World) (hb : Below w.heap.size w W) => pFollow_any s m a q cap L hq.out hq16 hOk' p x n c l hn (by have := (hst0.out hs).1; have := hn.out; omega) (Lib.hid (hst0.out hs).2) W (Lib.hid (hL.out.below hb)) (Lib.hid (hl.out.below hb))
    replace HFo := Lib.hid HFo
    generalize Pl.stc q [l] = es at *
    replace hF := Lib.hid hF1
    replace HS := Lib.hid HS
    clear hF1 hst0
    go_wp2_with fail
    refine (HS.out _ (below_alloc hb2 _) _ (by simp [go_sem])).mono ?_
    rintro e w2 ⟨rfl, hb3⟩
    have hbA : Below w1.heap.size w1 w2 := (below_alloc (Below.refl w1.heap.size w1) _).trans (hb3.mono (by simp))
    replace k0 := kept1 k0 hbA
    replace k1 := kept1 k1 hbA
    replace k2 := kept1 k2 hbA
    replace r1 := r1.below hbA
    have hb4 : Below w.heap.size w w2 := hb2.trans (hbA.mono hb2.size)
    clear HS hb2 hb3 hbA
    by_cases h1 : es = 0
    · subst h1
      have hF1 := hF.out
      rw [if_neg (by simp)] at hF1
      clear hF
      have HFo2 := Lib.hid (HFo.out rfl)
      clear HFo
      generalize hru : Pl.runs (Pl.adv L) ⟨p, 0, false⟩ l = rs at *
      clear hru
      cases rs with
      | none =>
        simp only [Prod.mk.injEq, Pl.St.mk.injEq] at hF1
        obtain ⟨⟨rfl, rfl, rfl⟩, rfl⟩ := hF1
        simp only [rsV] at HFo2
        replace HFo2 := Lib.hid HFo2.out
        go_wp2_with fail
        refine (HFo2.out _ hb4).mono ?_
        rintro e w3 ⟨rfl, hb5⟩
        have hb6 : Below w.heap.size w (w3.alloc (Obj.cells #[.int .i64 0, .int .i64 0, .bool false] 80)) := below_alloc (hb4.trans (hb5.mono hb4.size)) _
        replace r1 := r1.below (below_alloc hb5 (Obj.cells #[.int .i64 0, .int .i64 0, .bool false] 80))
        clear HFo2 hb4 hb5
        go_upto_region 9 with fail
        generalize w3.alloc (Obj.cells #[.int .i64 0, .int .i64 0, .bool false] 80) = Z at *
        have t0 := World.rowIs.cell r1 (i := 0) (by omega)
        have t1 := World.rowIs.cell r1 (i := 1) (by omega)
        have z0 := World.rowIs.frozen r1 0
        have z1 := World.rowIs.frozen r1 1
        have hS : SgA ((Z.setCell ⟨w.heap.size + 1, 0, none⟩ (.int .i64 0)).setCell ⟨w.heap.size + 1, 1, none⟩ (.bool false)) (w.heap.size + 1) 0 false := SgA.set r1 0 false
        have hq0 : ((Z.setCell ⟨w.heap.size + 1, 0, none⟩ (.int .i64 0)).setCell ⟨w.heap.size + 1, 1, none⟩ (.bool false)).cell? ⟨w.heap.size + 1, 0, none⟩ = some (.int .i64 0) := World.rowIs.cell hS (i := 0) (by omega)
        have hq1 : ((Z.setCell ⟨w.heap.size + 1, 0, none⟩ (.int .i64 0)).setCell ⟨w.heap.size + 1, 1, none⟩ (.bool false)).cell? ⟨w.heap.size + 1, 1, none⟩ = some (.bool false) := World.rowIs.cell hS (i := 1) (by omega)
        have hZ : Below w.heap.size w ((Z.setCell ⟨w.heap.size + 1, 0, none⟩ (.int .i64 0)).setCell ⟨w.heap.size + 1, 1, none⟩ (.bool false)) := (hb6.setCell (p := ⟨w.heap.size + 1, 0, none⟩) (by show w.heap.size ≤ w.heap.size + 1; omega) _).setCell (p := ⟨w.heap.size + 1, 1, none⟩) (by show w.heap.size ≤ w.heap.size + 1; omega) _
        go_wp2
        generalize ((Z.setCell ⟨w.heap.size + 1, 0, none⟩ (.int .i64 0)).setCell ⟨w.heap.size + 1, 1, none⟩ (.bool false)) = V at *
        refine bodyPost_ret (v := .tuple #[.int .i64 0, .agg #[.int .i64 0, .bool false], .int .i64 8]) (by simp [results, Tryd.results15, go_sem, hq0, hq1]) rfl ?_
        exact ⟨rfl, hZ⟩
      | some Y =>
        obtain ⟨p2, t2, m2⟩ := Y
        simp only [Prod.mk.injEq, Pl.St.mk.injEq] at hF1
        obtain ⟨⟨rfl, rfl, rfl⟩, rfl⟩ := hF1
        simp only [rsV, stV] at HFo2
        replace HFo2 := Lib.hid HFo2.out
        go_wp2_with fail
        refine (HFo2.out _ hb4).mono ?_
        rintro e w3 ⟨rfl, hb5⟩
        have hb6 : Below w.heap.size w (w3.alloc (Obj.cells #[.int .i64 p2, .int .i64 (t2 : Int), .bool m2] 80)) := below_alloc (hb4.trans (hb5.mono hb4.size)) _
        replace r1 := r1.below (below_alloc hb5 (Obj.cells #[.int .i64 p2, .int .i64 (t2 : Int), .bool m2] 80))
        have rS : SA (w3.alloc (Obj.cells #[.int .i64 p2, .int .i64 (t2 : Int), .bool m2] 80)) w3.heap.size ⟨p2, t2, m2⟩ := sa_new w3 ⟨p2, t2, m2⟩
        clear HFo2 hb4 hb5
        go_upto_region 10 with fail
        generalize w3.alloc (Obj.cells #[.int .i64 p2, .int .i64 (t2 : Int), .bool m2] 80) = Z at *
        generalize w3.heap.size = sb at *
        have s0 : Z.cell? ⟨sb, 0, none⟩ = some (.int .i64 p2) := World.rowIs.cell rS (i := 0) (by omega)
        have s1 : Z.cell? ⟨sb, 1, none⟩ = some (.int .i64 (t2 : Int)) := World.rowIs.cell rS (i := 1) (by omega)
        have s2 : Z.cell? ⟨sb, 2, none⟩ = some (.bool m2) := World.rowIs.cell rS (i := 2) (by omega)
        have t0 := World.rowIs.cell r1 (i := 0) (by omega)
        have t1 := World.rowIs.cell r1 (i := 1) (by omega)
        have z0 := World.rowIs.frozen r1 0
        have z1 := World.rowIs.frozen r1 1
        have hS : SgA ((Z.setCell ⟨w.heap.size + 1, 0, none⟩ (.int .i64 (t2 : Int))).setCell ⟨w.heap.size + 1, 1, none⟩ (.bool m2)) (w.heap.size + 1) t2 m2 := SgA.set r1 t2 m2
        have hq0 : ((Z.setCell ⟨w.heap.size + 1, 0, none⟩ (.int .i64 (t2 : Int))).setCell ⟨w.heap.size + 1, 1, none⟩ (.bool m2)).cell? ⟨w.heap.size + 1, 0, none⟩ = some (.int .i64 (t2 : Int)) := World.rowIs.cell hS (i := 0) (by omega)
        have hq1 : ((Z.setCell ⟨w.heap.size + 1, 0, none⟩ (.int .i64 (t2 : Int))).setCell ⟨w.heap.size + 1, 1, none⟩ (.bool m2)).cell? ⟨w.heap.size + 1, 1, none⟩ = some (.bool m2) := World.rowIs.cell hS (i := 1) (by omega)
        have hZ : Below w.heap.size w ((Z.setCell ⟨w.heap.size + 1, 0, none⟩ (.int .i64 (t2 : Int))).setCell ⟨w.heap.size + 1, 1, none⟩ (.bool m2)) := (hb6.setCell (p := ⟨w.heap.size + 1, 0, none⟩) (by show w.heap.size ≤ w.heap.size + 1; omega) _).setCell (p := ⟨w.heap.size + 1, 1, none⟩) (by show w.heap.size ≤ w.heap.size + 1; omega) _
        go_region
        go_wp2
        generalize ((Z.setCell ⟨w.heap.size + 1, 0, none⟩ (.int .i64 (t2 : Int))).setCell ⟨w.heap.size + 1, 1, none⟩ (.bool m2)) = V at *
        refine bodyPost_ret (v := .tuple #[.int .i64 p2, .agg #[.int .i64 (t2 : Int), .bool m2], .int .i64 0]) (by simp [results, Tryd.results15, go_sem, hq0, hq1]) rfl ?_
        exact ⟨rfl, hZ.drew⟩
    · have n1 : (es != 0) = true := by simpa using h1
      have hF2 := hF.out
      rw [if_pos h1] at hF2
      simp only [Prod.mk.injEq, Pl.St.mk.injEq] at hF2
      obtain ⟨⟨rfl, rfl, rfl⟩, rfl⟩ := hF2
      clear hF
      have t0 := World.rowIs.cell r1 (i := 0) (by omega)
      have t1 := World.rowIs.cell r1 (i := 1) (by omega)
      have z0 := World.rowIs.frozen r1 0
      have z1 := World.rowIs.frozen r1 1
      have hS : SgA ((w2.setCell ⟨w.heap.size + 1, 0, none⟩ (.int .i64 0)).setCell ⟨w.heap.size + 1, 1, none⟩ (.bool false)) (w.heap.size + 1) 0 false := SgA.set r1 0 false
      have hq0 : ((w2.setCell ⟨w.heap.size + 1, 0, none⟩ (.int .i64 0)).setCell ⟨w.heap.size + 1, 1, none⟩ (.bool false)).cell? ⟨w.heap.size + 1, 0, none⟩ = some (.int .i64 0) := World.rowIs.cell hS (i := 0) (by omega)
      have hq1 : ((w2.setCell ⟨w.heap.size + 1, 0, none⟩ (.int .i64 0)).setCell ⟨w.heap.size + 1, 1, none⟩ (.bool false)).cell? ⟨w.heap.size + 1, 1, none⟩ = some (.bool false) := World.rowIs.cell hS (i := 1) (by omega)
      have hZ : Below w.heap.size w ((w2.setCell ⟨w.heap.size + 1, 0, none⟩ (.int .i64 0)).setCell ⟨w.heap.size + 1, 1, none⟩ (.bool false)) := (hb4.setCell (p := ⟨w.heap.size + 1, 0, none⟩) (by show w.heap.size ≤ w.heap.size + 1; omega) _).setCell (p := ⟨w.heap.size + 1, 1, none⟩) (by show w.heap.size ≤ w.heap.size + 1; omega) _
      go_wp2
      generalize ((w2.setCell ⟨w.heap.size + 1, 0, none⟩ (.int .i64 0)).setCell ⟨w.heap.size + 1, 1, none⟩ (.bool false)) = V at *
      refine bodyPost_ret (v := .tuple #[.int .i64 0, .agg #[.int .i64 0, .bool false], .int .i64 es]) (by simp [results, Tryd.results15, go_sem, hq0, hq1]) rfl ?_
      exact ⟨rfl, hZ⟩
  · have n0 : (er != 0) = true := by simpa using h0
    have hF2 := hF.out
    rw [if_pos h0] at hF2
    simp only [Prod.mk.injEq, Pl.St.mk.injEq] at hF2
    obtain ⟨⟨rfl, rfl, rfl⟩, rfl⟩ := hF2
    clear hF
    have t0 := World.rowIs.cell r1 (i := 0) (by omega)
    have t1 := World.rowIs.cell r1 (i := 1) (by omega)
    have z0 := World.rowIs.frozen r1 0
    have z1 := World.rowIs.frozen r1 1
    have hS : SgA ((w1.setCell ⟨w.heap.size + 1, 0, none⟩ (.int .i64 0)).setCell ⟨w.heap.size + 1, 1, none⟩ (.bool false)) (w.heap.size + 1) 0 false := SgA.set r1 0 false
    have hq0 : ((w1.setCell ⟨w.heap.size + 1, 0, none⟩ (.int .i64 0)).setCell ⟨w.heap.size + 1, 1, none⟩ (.bool false)).cell? ⟨w.heap.size + 1, 0, none⟩ = some (.int .i64 0) := World.rowIs.cell hS (i := 0) (by omega)
    have hq1 : ((w1.setCell ⟨w.heap.size + 1, 0, none⟩ (.int .i64 0)).setCell ⟨w.heap.size + 1, 1, none⟩ (.bool false)).cell? ⟨w.heap.size + 1, 1, none⟩ = some (.bool false) := World.rowIs.cell hS (i := 1) (by omega)
    have hZ : Below w.heap.size w ((w1.setCell ⟨w.heap.size + 1, 0, none⟩ (.int .i64 0)).setCell ⟨w.heap.size + 1, 1, none⟩ (.bool false)) := (hb2.setCell (p := ⟨w.heap.size + 1, 0, none⟩) (by show w.heap.size ≤ w.heap.size + 1; omega) _).setCell (p := ⟨w.heap.size + 1, 1, none⟩) (by show w.heap.size ≤ w.heap.size + 1; omega) _
    go_wp2
    generalize ((w1.setCell ⟨w.heap.size + 1, 0, none⟩ (.int .i64 0)).setCell ⟨w.heap.size + 1, 1, none⟩ (.bool false)) = V at *
    refine bodyPost_ret (v := .tuple #[.int .i64 0, .agg #[.int .i64 0, .bool false], .int .i64 er]) (by simp [results, Tryd.results15, go_sem, hq0, hq1]) rfl ?_
    exact ⟨rfl, hZ⟩
end Go.Proofs.YtmkjmpkicmadcaaDoor

/- Contracts of package plate: what freedom asks of the signs. -/
namespace Go.Proofs.YtmkjmpkicmadcaaDoor
open Go.RowKit

/-- signs in a row, wherever they lie -/
def SgsAt (w : World) (a : Option Addr) (G : List (Nat × Bool)) : Prop := ∀ k, k < G.length → ∃ x, a = some x ∧ w.cell? (x.add (k * 2)) = some (.int .i64 ((G.getD k (0, false)).1 : Int)) ∧ w.cell? ⟨(x.add (k * 2)).block, (x.add (k * 2)).off + 1, none⟩ = some (.bool (G.getD k (0, false)).2)
theorem SgsAt.below {w W : World} {a : Option Addr} {G : List (Nat × Bool)} (h : SgsAt w a G) (hb : Below w.heap.size w W) : SgsAt W a G := fun k hk => by
  obtain ⟨x, rfl, h1, h2⟩ := h k hk
  exact ⟨x, rfl, kept1 h1 hb, kept1 h2 hb⟩
theorem any_atG {G : List (Nat × Bool)} {k : Nat} (h : k < G.length) : (G.drop k).any (·.2) = ((G.getD k (0, false)).2 || (G.drop (k + 1)).any (·.2)) := by
  rw [List.drop_eq_getElem_cons h, List.any_cons]
  simp [List.getD, List.getElem?_eq_getElem h]

set_option maxHeartbeats 400000 in
theorem minus_any (t : Int) (m : Bool) (w : World) :
    Calls Tryd.prog 71 #[.agg #[.int .i64 t, .bool m]] w fun e w' => e = .returned (.bool m) ∧ Below w.heap.size w w' := by
  go_enter Tryd.func71, Tryd.ntmps71
  go_wp2
  go_ret
  exact ⟨rfl, (by repeat (first | with_reducible exact Below.refl _ _ | with_reducible assumption | refine below_drewN ?_ _ | refine Below.drew ?_ | refine Below.alloc ?_ (by first | (simp; done) | (simp; omega) | omega) _ | refine Below.setCell ?_ (by first | (simp; done) | (simp; omega) | omega) _ | refine Below.trans ?_ (Below.mono (by assumption) (by first | (simp; done) | (simp; omega) | omega))))⟩

/-- the index that is found, or none -/
def IxqPost (w : World) (b : Bool) (e : Ending) (w' : World) : Prop := ∃ z : Int, e = .returned (.int .i64 z) ∧ (0 ≤ z ↔ b = true) ∧ Below w.heap.size w w'

set_option maxRecDepth 100000 in
set_option maxHeartbeats 1000000 in
theorem indexMinus_any (a : Option Addr) (cap : Nat) (G : List (Nat × Bool)) (n : Nat) (hn : Hid (G.length = n)) (hn2 : n ≤ 1000) (b : Bool) (hb : Hid (G.any (·.2) = b)) (w : World) (hl : Hid (SgsAt w a G)) :
    Calls Tryd.prog 83 #[.slice a n cap, .func (.func 71) #[] #[]] w (IxqPost w b) := by
  go_enter Tryd.func83, Tryd.ntmps83
  go_wp2
  go_loopw [8] (fun i wr => ∃ k : Nat, k ≤ n ∧ i = .int .i64 k ∧ Below w.heap.size w wr ∧ Hid (G.any (·.2) = (G.drop k).any (·.2))) (fun i _ => n - (RowKit.intOf i).toNat)
  case atStart => exact ⟨0, Nat.zero_le _, rfl, Below.refl _ _, Lib.hid rfl⟩
  case round =>
    obtain ⟨k, hk, rfl, hbw, hany⟩ := hrel
    by_cases hlt : k < n
    · obtain ⟨x, rfl, hc0, hc1⟩ := hl.out k (by have := hn.out; omega)
      have hst := any_atG (G := G) (k := k) (by have := hn.out; omega)
      obtain ⟨t, m, hz⟩ : ∃ t m, G.getD k (0, false) = (t, m) := ⟨_, _, rfl⟩
      rw [hz] at hc0 hc1 hst
      simp only at hc0 hc1 hst
      replace hc0 := kept1 hc0 hbw
      replace hc1 := kept1 hc1 hbw
      clear hz
      have hi5 : (k : Int) < (n : Int) := by omega
      have HV := Lib.hid (minus_any (t : Int) m)
      replace hst := Lib.hid hst
      go_wp2_with fail
      refine (HV.out _).mono ?_
      rintro e w1 ⟨rfl, hb1⟩
      have hb2 : Below w.heap.size w w1 := hbw.trans (hb1.mono hbw.size)
      cases m
      · go_wp2
        go_roundw
        case rel => exact ⟨k + 1, by omega, by go_num, hb2, Lib.hid (by rw [hany.out, hst.out]; simp)⟩
        case measure => first | (simp [RowKit.intOf]; done) | (simp [RowKit.intOf]; omega) | omega
      · go_wp2
        go_ret
        exact ⟨_, rfl, by rw [← hb.out, hany.out, hst.out]; simp, hb2⟩
    · obtain rfl : k = n := by omega
      have hi5 : ¬ (k : Int) < (k : Int) := by omega
      have hb9 : Hid (G.any (·.2) = false) := Lib.hid (by rw [hany.out, List.drop_eq_nil_of_le (by have := hn.out; omega)]; rfl)
      clear hany
      go_wp2
      go_ret
      exact ⟨-1, rfl, by rw [← hb.out, hb9.out]; simp, hbw⟩

set_option maxHeartbeats 400000 in
theorem containsMinus_any (a : Option Addr) (cap : Nat) (G : List (Nat × Bool)) (n : Nat) (hn : Hid (G.length = n)) (hn2 : n ≤ 1000) (w : World) (hl : Hid (SgsAt w a G)) :
    Calls Tryd.prog 70 #[.slice a n cap, .func (.func 71) #[] #[]] w fun e w' => e = .returned (.bool (G.any (·.2))) ∧ Below w.heap.size w w' := by
  obtain ⟨b, hb⟩ : ∃ b, G.any (·.2) = b := ⟨_, rfl⟩
  rw [hb]
  have H := indexMinus_any a cap G n hn hn2 b (Lib.hid hb) w hl
  clear hb hl
  go_enter Tryd.func70, Tryd.ntmps70
  go_wp2_with fail
  refine H.mono ?_
  rintro e w1 ⟨z, rfl, hz, hb1⟩
  replace hz := Lib.hid hz
  go_wp2
  go_ret
  refine ⟨ret_bool ?_, hb1⟩
  have h := hz.out
  cases b
  · simp at h
    rw [decide_eq_false (by omega)]
  · simp at h
    rw [decide_eq_true (by omega)]
end Go.Proofs.YtmkjmpkicmadcaaDoor

/- Contracts of the specification of layer 3: SameSigns. -/
namespace Go.Proofs.YtmkjmpkicmadcaaDoor
open Go.RowKit

theorem sg_held : Tryd.prog.stoodInHeld 38 = false := by kernel_rfl
theorem sg_guard : Tryd.prog.eqGuardType Tryd.prog.depth 38 = false := by kernel_rfl
theorem int_heldJ : Tryd.prog.stoodInHeld 3 = false := by kernel_rfl
theorem run_eql_sg (t t' : Int) (m m' : Bool) (w : World) : (binOp .eql 38 (.agg #[.int .i64 t, .bool m]) (.agg #[.int .i64 t', .bool m'])).run Tryd.prog w = .ok (.bool (decide (t = t' ∧ m = m'))) w := by
  rw [run_eql_struct, run_equalIn_agg _ _ _ _ _ (by simp only [Program.fieldsOf, Tryd.underlying38]) sg_held]
  simp only [Program.fieldsOf, Tryd.underlying38]
  by_cases h1 : t = t'
  · by_cases h2 : m = m'
    · simp [Op.eqFields, go_sem, h1, h2]
    · simp [Op.eqFields, go_sem, h1, h2]
  · simp [Op.eqFields, go_sem, h1]
theorem run_neq_sg (t t' : Int) (m m' : Bool) (w : World) : (binOp .neq 38 (.agg #[.int .i64 t, .bool m]) (.agg #[.int .i64 t', .bool m'])).run Tryd.prog w = .ok (.bool (!(decide (t = t' ∧ m = m')))) w := by
  have h := run_eql_sg t t' m m' w
  rw [run_eql_struct] at h
  rw [run_neq_struct]
  revert h
  generalize (Op.equalIn 10000 38 (.agg #[.int .i64 t, .bool m]) (.agg #[.int .i64 t', .bool m'])).run Tryd.prog w = r
  intro h
  cases r with
  | ok b w' =>
    simp [Result.andThen] at h ⊢
    obtain ⟨h1, h2⟩ := h
    subst h1; subst h2
    simp
  | _ => simp [Result.andThen] at h

set_option maxHeartbeats 400000 in
theorem sameSigns_len (a b : Option Addr) (p q c d : Nat) (h : ((p : Int) != (q : Int)) = true) (w : World) :
    Calls Tryd.prog 37 #[.slice a p c, .slice b q d] w fun e w' => e = .returned (.bool false) ∧ Below w.heap.size w w' := by
  go_enter Tryd.func37, Tryd.ntmps37
  go_wp2
  go_ret
  exact ⟨rfl, (by repeat (first | with_reducible exact Below.refl _ _ | with_reducible assumption | refine below_drewN ?_ _ | refine Below.drew ?_ | refine Below.alloc ?_ (by first | (simp; done) | (simp; omega) | omega) _ | refine Below.setCell ?_ (by first | (simp; done) | (simp; omega) | omega) _ | refine Below.trans ?_ (Below.mono (by assumption) (by first | (simp; done) | (simp; omega) | omega))))⟩

set_option maxRecDepth 100000 in
set_option maxHeartbeats 2000000 in
theorem sameSigns_loop (a b : Option Addr) (p c d : Nat) (l1 l2 : List (Nat × Bool)) (h1 : Hid (l1.length = p)) (h2 : Hid (l2.length = p)) (hp : p ≤ 1000000) (R : Bool) (hR : Hid (decide (l1 = l2) = R)) (w : World) (hl1 : Hid (SgsAt w a l1)) (hl2 : Hid (SgsAt w b l2)) :
    Calls Tryd.prog 37 #[.slice a p c, .slice b p d] w fun e w' => e = .returned (.bool R) ∧ Below w.heap.size w w' := by
  go_enter Tryd.func37, Tryd.ntmps37
  go_wp2
  go_loopw [5] (fun i wr => ∃ k : Nat, k ≤ p ∧ i = .int .i64 k ∧ Below w.heap.size w wr ∧ Hid (∀ j, j < k → l1.getD j (0, false) = l2.getD j (0, false))) (fun i _ => p - (RowKit.intOf i).toNat)
  case atStart => exact ⟨0, Nat.zero_le _, rfl, Below.refl _ _, Lib.hid (fun j hj => by omega)⟩
  case round =>
    obtain ⟨k, hk, rfl, hb, hall⟩ := hrel
    by_cases hlt : k < p
    · obtain ⟨x, rfl, hx0, hx1⟩ := hl1.out k (by have := h1.out; omega)
      obtain ⟨y, rfl, hy0, hy1⟩ := hl2.out k (by have := h2.out; omega)
      obtain ⟨u, ub, hu⟩ : ∃ u ub, l1.getD k (0, false) = (u, ub) := ⟨_, _, rfl⟩
      obtain ⟨v, vb, hv⟩ : ∃ v vb, l2.getD k (0, false) = (v, vb) := ⟨_, _, rfl⟩
      rw [hu] at hx0 hx1
      rw [hv] at hy0 hy1
      simp only at hx0 hx1 hy0 hy1
      replace hx0 := kept1 hx0 hb
      replace hx1 := kept1 hx1 hb
      replace hy0 := kept1 hy0 hb
      replace hy1 := kept1 hy1 hb
      replace hu := Lib.hid hu
      replace hv := Lib.hid hv
      have hi5 : (k : Int) < (p : Int) := by omega
      have hi6 : (0 : Int) ≤ (k : Int) := by omega
      have hne := run_neq_sg (u : Int) (v : Int) ub vb
      have hgd := sg_guard
      obtain ⟨sm, hsm⟩ : ∃ sm, decide ((u : Int) = (v : Int) ∧ ub = vb) = sm := ⟨_, rfl⟩
      rw [hsm] at hne
      replace hsm := Lib.hid hsm
      have hb' := Lib.hid hb
      clear hb
      go_upto_region 6 with fail
      go_quiet (fail)
      clear hne hgd
      cases sm
      · have hR2 : R = false := by
          rw [← hR.out, decide_eq_false]
          intro e
          have h9 := of_decide_eq_false hsm.out
          rw [e, hv.out] at hu
          have h8 := Prod.mk.inj hu.out
          exact h9 ⟨by rw [h8.1], h8.2.symm⟩
        subst hR2
        clear hall hR
        go_wp2
        go_ret
        exact ⟨rfl, below_drewN hb'.out _⟩
      · have h9 := of_decide_eq_true hsm.out
        have hall2 : Hid (∀ j, j < k + 1 → l1.getD j (0, false) = l2.getD j (0, false)) := Lib.hid (fun j hj => by
          rcases Nat.lt_or_ge j k with h | h
          · exact hall.out j h
          · obtain rfl : j = k := by omega
            rw [hu.out, hv.out, h9.2, show u = v by omega])
        have hbn := fun nq => below_drewN hb'.out nq
        clear hall h9
        go_wp2
        go_roundw
        case rel => exact ⟨k + 1, by omega, by go_num, hbn _, hall2⟩
        case measure => first | (simp [RowKit.intOf]; done) | (simp [RowKit.intOf]; omega) | omega
    · obtain rfl : k = p := by omega
      have hi5 : ¬ (k : Int) < (k : Int) := by omega
      have hR2 : R = true := by
        rw [← hR.out, decide_eq_true]
        refine List.ext_getElem (h1.out.trans h2.out.symm) (fun j hj1 hj2 => ?_)
        have := hall.out j (by have := h1.out; omega)
        simp only [List.getD, List.getElem?_eq_getElem hj1, List.getElem?_eq_getElem hj2, Option.getD_some] at this
        exact this
      subst hR2
      clear hall hR
      go_wp2
      go_ret
      exact ⟨rfl, hb⟩
end Go.Proofs.YtmkjmpkicmadcaaDoor

/- Layer 3, plain: uniting over lists, as plate does it. -/
namespace Pl

def lsF (l : List Nat) : Nat → Nat := fun c => l.getD c 0
def wsF (w : List Int) : Nat → Int := fun c => w.getD c 0
def unlL (l : List Nat) (x y : Nat) : List Nat := l.map fun c => if c = goes (lsF l) x y then stay (lsF l) x y else c
def unlW (l : List Nat) (w : List Int) (x y : Nat) (e : Bool) : List Int := (l.zip w).map fun p =>
  if p.1 = goes (lsF l) x y then p.2 * across (lsF l) (wsF w) x y e else if p.1 = stay (lsF l) x y then p.2 * (across (lsF l) (wsF w) x y e * across (lsF l) (wsF w) x y e) else p.2
theorem lsF_at {l : List Nat} {c : Nat} (h : c < l.length) : lsF l c = l[c] := by
  unfold lsF
  rw [List.getD, List.getElem?_eq_getElem h]
  rfl
theorem wsF_at {l : List Int} {c : Nat} (h : c < l.length) : wsF l c = l[c] := by
  unfold wsF
  rw [List.getD, List.getElem?_eq_getElem h]
  rfl
theorem unlL_len (l : List Nat) (x y : Nat) : (unlL l x y).length = l.length := by unfold unlL; rw [List.length_map]
theorem unlW_len (l : List Nat) (w : List Int) (x y : Nat) (e : Bool) (h : w.length = l.length) : (unlW l w x y e).length = l.length := by
  unfold unlW
  rw [List.length_map, List.length_zip, h, Nat.min_self]
theorem lsF_unl {l : List Nat} {c : Nat} (h : c < l.length) (x y : Nat) : lsF (unlL l x y) c = unL (lsF l) x y c := by
  rw [lsF_at (by rw [unlL_len]; exact h)]
  unfold unlL unL
  rw [List.getElem_map, lsF_at h]
theorem wsF_unl {l : List Nat} {w : List Int} {c : Nat} (hw : w.length = l.length) (h : c < l.length) (x y : Nat) (e : Bool) : wsF (unlW l w x y e) c = unW (lsF l) (wsF w) x y e c := by
  rw [wsF_at (by rw [unlW_len _ _ _ _ _ hw]; exact h)]
  unfold unlW unW
  rw [List.getElem_map, List.getElem_zip, lsF_at h, wsF_at (by omega)]
/-- all edges, one behind the other -/
def unlAll : List (Nat × Nat × Bool) → List Nat × List Int → List Nat × List Int
  | [], q => q
  | e :: r, q => unlAll r (unlL q.1 e.1 e.2.1, unlW q.1 q.2 e.1 e.2.1 e.2.2)
theorem unlAll_uf {N : Nat} : ∀ (F E : List (Nat × Nat × Bool)) (q : List Nat × List Int), q.1.length = N → q.2.length = N → Uf N E (lsF q.1) (wsF q.2) → (∀ e ∈ F, e.1 < N ∧ e.2.1 < N) →
    Uf N (F ++ E) (lsF (unlAll F q).1) (wsF (unlAll F q).2) ∧ (unlAll F q).1.length = N ∧ (unlAll F q).2.length = N
  | [], E, q, h1, h2, h, _ => ⟨h, h1, h2⟩
  | e :: r, E, q, h1, h2, h, hF => by
    have he := hF e List.mem_cons_self
    have hu := (h.unite he.1 he.2 e.2.2).ext (l' := lsF (unlL q.1 e.1 e.2.1)) (w' := wsF (unlW q.1 q.2 e.1 e.2.1 e.2.2)) (fun c hc => lsF_unl (by omega) _ _) (fun c hc => wsF_unl (by omega) (by omega) _ _ _)
    obtain ⟨g1, g2, g3⟩ := unlAll_uf r (e :: E) (unlL q.1 e.1 e.2.1, unlW q.1 q.2 e.1 e.2.1 e.2.2) (by rw [unlL_len]; exact h1) (by rw [unlW_len _ _ _ _ _ (by omega)]; exact h1) hu (fun x hx => hF x (List.mem_cons_of_mem _ hx))
    refine ⟨g1.congr fun x => ?_, g2, g3⟩
    simp only [List.mem_append, List.mem_cons]
    constructor
    · rintro (a | rfl | a)
      · exact Or.inl (Or.inr a)
      · exact Or.inl (Or.inl rfl)
      · exact Or.inr a
    · rintro ((rfl | a) | a)
      · exact Or.inr (Or.inl rfl)
      · exact Or.inl a
      · exact Or.inr (Or.inr a)
/-- classes -/
def clsL (s : Nat) (G : List (Nat × Bool)) : List Nat × List Int := unlAll (edges s G) (List.range (s * s), List.replicate (s * s) 1)
theorem clsL_uf {s : Nat} (hs : s ≤ 6) {G : List (Nat × Bool)} (hG : ∀ g ∈ G, g.1 < 8) : Uf (s * s) (edges s G) (lsF (clsL s G).1) (wsF (clsL s G).2) ∧ (clsL s G).1.length = s * s ∧ (clsL s G).2.length = s * s := by
  have h0 : Uf (s * s) [] (lsF (List.range (s * s))) (wsF (List.replicate (s * s) 1)) := (uf_start (s * s)).ext (fun c hc => by
    rw [lsF_at (by rw [List.length_range]; exact hc), List.getElem_range]) (fun c hc => by
    rw [wsF_at (by rw [List.length_replicate]; exact hc), List.getElem_replicate])
  have := unlAll_uf (edges s G) [] (List.range (s * s), List.replicate (s * s) 1) List.length_range List.length_replicate h0 (fun e he => by
    obtain ⟨x, y, m⟩ := e
    obtain ⟨hx, t, ht, rfl⟩ := mem_edges.1 he
    exact ⟨hx, tk_lt hs hx (hG _ ht)⟩)
  rwa [List.append_nil] at this
end Pl

/- Layer 3, plain: classes, sign by sign and edge by edge. -/
namespace Pl

theorem unlAll_append : ∀ (A B : List (Nat × Nat × Bool)) (q : List Nat × List Int), unlAll (A ++ B) q = unlAll B (unlAll A q)
  | [], _, _ => rfl
  | _ :: A, B, _ => unlAll_append A B _
/-- the edges of a sign -/
def edg (m : Bool) (l : List (Nat × Nat)) : List (Nat × Nat × Bool) := l.map fun e => (e.1, e.2, m)
theorem edges_cons (s : Nat) (g : Nat × Bool) (G : List (Nat × Bool)) : edges s (g :: G) = edg g.2 (mvs s g.1 (s * s)) ++ edges s G := by
  unfold edges edg mvs
  rw [List.flatMap_cons, List.map_map]
  rfl
theorem edges_append (s : Nat) (G H : List (Nat × Bool)) : edges s (G ++ H) = edges s G ++ edges s H := by unfold edges; rw [List.flatMap_append]
theorem edg_snoc (m : Bool) (l : List (Nat × Nat)) (e : Nat × Nat) : edg m (l ++ [e]) = edg m l ++ [(e.1, e.2, m)] := by unfold edg; rw [List.map_append]; rfl

/-- lists of classes -/
structure CL (N : Nat) (q : List Nat × List Int) : Prop where
  l : q.1.length = N
  w : q.2.length = N
  lt : ∀ k, k < N → lsF q.1 k < N
  tri : ∀ k, k < N → wsF q.2 k = 1 ∨ wsF q.2 k = -1 ∨ wsF q.2 k = 0
theorem CL.start (N : Nat) : CL N (List.range N, List.replicate N 1) := by
  refine ⟨List.length_range, List.length_replicate, fun k hk => ?_, fun k hk => ?_⟩
  · rw [lsF_at (by rw [List.length_range]; exact hk), List.getElem_range]; exact hk
  · rw [wsF_at (by rw [List.length_replicate]; exact hk), List.getElem_replicate]; exact .inl rfl
theorem across_tri {N : Nat} {q : List Nat × List Int} (h : CL N q) {x y : Nat} (hx : x < N) (hy : y < N) (e : Bool) : across (lsF q.1) (wsF q.2) x y e = 1 ∨ across (lsF q.1) (wsF q.2) x y e = -1 ∨ across (lsF q.1) (wsF q.2) x y e = 0 := by
  unfold across
  split
  · exact .inr (.inr rfl)
  · exact tri_mul (tri_mul (h.tri x hx) (by rcases sg_cases e with h | h <;> simp [h])) (h.tri y hy)
theorem CL.step {N : Nat} {q : List Nat × List Int} (h : CL N q) {x y : Nat} (hx : x < N) (hy : y < N) (e : Bool) : CL N (unlL q.1 x y, unlW q.1 q.2 x y e) := by
  have hl := h.l
  have hw := h.w
  refine ⟨by rw [unlL_len]; exact hl, by rw [unlW_len _ _ _ _ _ (by omega)]; exact hl, fun k hk => ?_, fun k hk => ?_⟩
  · rw [lsF_unl (by omega)]
    unfold unL
    split
    · unfold stay
      have := h.lt x hx
      omega
    · exact h.lt k hk
  · rw [wsF_unl (by omega) (by omega)]
    have ha := across_tri h hx hy e
    unfold unW
    split
    · exact tri_mul (h.tri k hk) ha
    · split
      · exact tri_mul (h.tri k hk) (tri_mul ha ha)
      · exact h.tri k hk
/-- classes, behind some signs and some cells -/
def clsTo (s : Nat) (G : List (Nat × Bool)) (m : Bool) (pre : List (Nat × Nat)) : List Nat × List Int := unlAll (edges s G ++ edg m pre) (List.range (s * s), List.replicate (s * s) 1)
theorem clsTo_nil (s : Nat) (G : List (Nat × Bool)) (m : Bool) : clsTo s G m [] = clsL s G := by
  unfold clsTo clsL edg
  rw [List.map_nil, List.append_nil]
theorem clsTo_snoc (s : Nat) (G : List (Nat × Bool)) (m : Bool) (pre : List (Nat × Nat)) (e : Nat × Nat) : clsTo s G m (pre ++ [e]) = (unlL (clsTo s G m pre).1 e.1 e.2, unlW (clsTo s G m pre).1 (clsTo s G m pre).2 e.1 e.2 m) := by
  unfold clsTo
  rw [edg_snoc, ← List.append_assoc, unlAll_append _ [_]]
  rfl
theorem clsTo_all (s : Nat) (G : List (Nat × Bool)) (t : Nat) (m : Bool) : clsTo s G m (mvs s t (s * s)) = clsL s (G ++ [(t, m)]) := by
  unfold clsTo clsL
  rw [edges_append, edges_cons]
  show _ = unlAll (edges s G ++ (edg m (mvs s t (s * s)) ++ [])) _
  rw [List.append_nil]
theorem mvs_mem {s t n : Nat} {e : Nat × Nat} (h : e ∈ mvs s t n) : e.1 < n ∧ e.2 = tk s t e.1 := by
  unfold mvs at h
  obtain ⟨x, hx, rfl⟩ := List.mem_map.1 h
  exact ⟨List.mem_range.1 hx, rfl⟩
theorem unlAll_CL {N : Nat} : ∀ (F : List (Nat × Nat × Bool)) (q : List Nat × List Int), CL N q → (∀ e ∈ F, e.1 < N ∧ e.2.1 < N) → CL N (unlAll F q)
  | [], _, h, _ => h
  | e :: r, q, h, hF => unlAll_CL r _ (h.step (hF e List.mem_cons_self).1 (hF e List.mem_cons_self).2 _) (fun x hx => hF x (List.mem_cons_of_mem _ hx))
theorem clsTo_CL {s : Nat} (hs : s ≤ 6) {G : List (Nat × Bool)} (hG : ∀ g ∈ G, g.1 < 8) (m : Bool) {t : Nat} (ht : t < 8) {pre : List (Nat × Nat)} (hp : ∀ e ∈ pre, e ∈ mvs s t (s * s)) : CL (s * s) (clsTo s G m pre) := by
  refine unlAll_CL _ _ (CL.start _) (fun e he => ?_)
  rcases List.mem_append.1 he with he | he
  · obtain ⟨x, y, m'⟩ := e
    obtain ⟨hx, u, hu, rfl⟩ := mem_edges.1 he
    exact ⟨hx, tk_lt hs hx (hG _ hu)⟩
  · unfold edg at he
    obtain ⟨a, ha, rfl⟩ := List.mem_map.1 he
    obtain ⟨h1, h2⟩ := mvs_mem (hp a ha)
    refine ⟨h1, ?_⟩
    simp only
    rw [h2]
    exact tk_lt hs h1 ht
theorem clsL_CL {s : Nat} (hs : s ≤ 6) {G : List (Nat × Bool)} (hG : ∀ g ∈ G, g.1 < 8) : CL (s * s) (clsL s G) := by
  have := clsTo_CL hs hG false (t := 0) (by omega) (pre := []) (fun e he => (List.not_mem_nil he).elim)
  rwa [clsTo_nil] at this
end Pl

/- Layer 3, plain: plates that are connected have as many signs. -/
namespace Pl

theorem conj_all : (List.range 8).all (fun t => (List.range 8).all fun u => (cmp (cmp (cmp t u) (inv t)) t == cmp t u) && (cmp (cmp (inv t) (cmp (cmp t u) (inv t))) t == u)) = true := by decide +kernel
theorem conj_one {t u : Nat} (ht : t < 8) (hu : u < 8) : cmp (cmp (cmp t u) (inv t)) t = cmp t u ∧ cmp (cmp (inv t) (cmp (cmp t u) (inv t))) t = u := by
  have := range_all (range_all conj_all ht) hu
  simpa using this
/-- a closed walk, seen from another plate -/
theorem Clo.conj {m : Int} {W : List Wk} (hW : Ok m W) {p q : Int} {t : Nat} {e : Bool} {w : List Int} (hw : ∀ k ∈ w, k ∈ stps W.length) (hr : runs (adv W) (start p) w = some ⟨q, t, e⟩) {u : Nat} {f : Bool} (h : Clo W q u f) : Clo W p (cmp (cmp t u) (Pl.inv t)) f := by
  have hs : (start p).t < 8 := by unfold start; simp only; omega
  have ht : t < 8 := (runs_in hW w _ _ hw hs hr).1
  have hu := h.lt hW
  obtain ⟨v, h1, h2⟩ := h
  obtain ⟨x, g1, g2⟩ := runs_back hW w _ _ hw hs hr
  refine ⟨w ++ (v ++ x), fun k hk => ?_, ?_⟩
  · rcases List.mem_append.1 hk with hk | hk
    · exact hw k hk
    · rcases List.mem_append.1 hk with hk | hk
      · exact h1 k hk
      · exact g1 k hk
  · have hc := cmp_lt (cmp_lt ht hu) (inv_lt ht)
    rw [runs_append, hr]
    show runs (adv W) ⟨q, t, e⟩ (v ++ x) = _
    rw [runs_append, ← mv_start ht e q, runs_mv hW ht e v _ h1 (by unfold start; simp only; omega), h2]
    show runs (adv W) (mv t e ⟨q, u, f⟩) x = _
    have e1 : mv t e ⟨q, u, f⟩ = mv (cmp (cmp t u) (Pl.inv t)) f ⟨q, t, e⟩ := by
      unfold mv
      simp only
      rw [(conj_one ht hu).1]
      cases e <;> cases f <;> rfl
    rw [e1, runs_mv hW hc f x _ g1 ht, g2, Option.map_some, mv_start hc]
theorem all16_nodup : all16.Nodup := by decide
theorem signs_nodup (W : List Wk) (p : Int) : (signs W p).Nodup := List.Pairwise.filter _ all16_nodup
theorem map_nodup {α β : Type} {f : α → β} : ∀ {l : List α}, l.Nodup → (∀ a ∈ l, ∀ b ∈ l, f a = f b → a = b) → (l.map f).Nodup
  | [], _, _ => by simp
  | a :: r, h, hf => by
    rw [List.nodup_cons] at h
    rw [List.map_cons, List.nodup_cons]
    refine ⟨fun hm => ?_, map_nodup h.2 fun x hx y hy => hf x (List.mem_cons_of_mem _ hx) y (List.mem_cons_of_mem _ hy)⟩
    obtain ⟨b, hb, e⟩ := List.mem_map.1 hm
    have := hf b (List.mem_cons_of_mem _ hb) a List.mem_cons_self e
    rw [this] at hb
    exact h.1 hb
theorem signs_le {m : Int} {W : List Wk} (hm : m ≤ 6) (hW : Ok m W) {p q : Int} (hp : 0 ≤ p ∧ p < m) (hq : 0 ≤ q ∧ q < m) {t : Nat} {e : Bool} {w : List Int} (hw : ∀ k ∈ w, k ∈ stps W.length) (hr : runs (adv W) (start p) w = some ⟨q, t, e⟩) : (signs W q).length ≤ (signs W p).length := by
  have hs : (start p).t < 8 := by unfold start; simp only; omega
  have ht : t < 8 := (runs_in hW w _ _ hw hs hr).1
  have lt : ∀ g ∈ signs W q, g.1 < 8 := (signs_grp hm hW hq).lt
  have := nodup_le (U := signs W p) (l := (signs W q).map fun g => (cmp (cmp t g.1) (inv t), g.2)) (map_nodup (signs_nodup W q) fun a ha b hb h => by
    simp only [Prod.mk.injEq] at h
    have ea := (conj_one ht (lt a ha)).2
    have eb := (conj_one ht (lt b hb)).2
    rw [h.1, eb] at ea
    exact Prod.ext ea.symm h.2) fun g hg => by
      obtain ⟨a, ha, rfl⟩ := List.mem_map.1 hg
      exact (mem_signs hm hW hp).2 (((mem_signs hm hW hq (t := a.1) (e := a.2)).1 ha).conj hW hw hr)
  simpa using this
theorem signs_same {m : Int} {W : List Wk} (hm : m ≤ 6) (hW : Ok m W) {p q : Int} (hp : 0 ≤ p ∧ p < m) {t : Nat} {e : Bool} {w : List Int} (hw : ∀ k ∈ w, k ∈ stps W.length) (hr : runs (adv W) (start p) w = some ⟨q, t, e⟩) : (signs W q).length = (signs W p).length := by
  have hs : (start p).t < 8 := by unfold start; simp only; omega
  obtain ⟨ht, hq⟩ := runs_in hW w _ _ hw hs hr
  have hq := hq hp
  obtain ⟨x, g1, g2⟩ := runs_back hW w _ _ hw hs hr
  have hx := runs_mv hW (inv_lt ht) e x ⟨q, t, e⟩ g1 ht
  rw [g2] at hx
  have e1 : mv (inv t) e ⟨q, t, e⟩ = start q := by
    unfold mv start
    simp only
    rw [(gp ht).inv']
    cases e <;> rfl
  rw [e1] at hx
  exact Nat.le_antisymm (signs_le hm hW hp hq hw hr) (signs_le hm hW hq hp g1 hx)
end Pl

/- Layer 3, plain: how many heights can be chosen, and what proves that none can. -/
namespace Pl

/-- the least cells of the classes that are not pinned -/
def evs (N : Nat) (l : Nat → Nat) (w : Nat → Int) : List Nat := (List.range N).filter fun x => decide (l x = x) && decide (w x ≠ 0)
theorem mem_evs {N : Nat} {l : Nat → Nat} {w : Nat → Int} {x : Nat} : x ∈ evs N l w ↔ x < N ∧ l x = x ∧ w x ≠ 0 := by
  unfold evs
  rw [List.mem_filter, List.mem_range, Bool.and_eq_true, decide_eq_true_eq, decide_eq_true_eq]
theorem evs_nodup (N : Nat) (l : Nat → Nat) (w : Nat → Int) : (evs N l w).Nodup := List.Pairwise.filter _ List.nodup_range
def minusIn (E : List (Nat × Nat × Bool)) : Prop := ∃ x y, (x, y, true) ∈ E
theorem jn_plus {E : List (Nat × Nat × Bool)} (h : ¬ minusIn E) {x y : Nat} {m : Bool} (j : Jn E x y m) : m = false := by
  induction j with
  | refl => rfl
  | @fwd y z m e _ hE ih =>
    rw [ih]
    cases e
    · rfl
    · exact absurd ⟨_, _, hE⟩ h
  | @bwd y z m e _ hE ih =>
    rw [ih]
    cases e
    · rfl
    · exact absurd ⟨_, _, hE⟩ h
theorem Uf.plus {N : Nat} {E : List (Nat × Nat × Bool)} {l : Nat → Nat} {w : Nat → Int} (h : Uf N E l w) (hE : ¬ minusIn E) {x : Nat} (hx : x < N) : w x = 1 := by
  rcases h.tri x hx with q | q | q
  · exact q
  · exact absurd (jn_plus hE (h.snd x true hx (Or.inr q))) (by decide)
  · exact absurd (jn_plus hE (h.snd x true hx (Or.inl q))) (by decide)
/-- without Minus: one class is left exactly if all cells are joined with the first one -/
theorem Uf.one_class {N : Nat} {E : List (Nat × Nat × Bool)} {l : Nat → Nat} {w : Nat → Int} (h : Uf N E l w) (hN : 0 < N) (hE : ¬ minusIn E) : (evs N l w).length = 1 ↔ ∀ x, x < N → Jn E 0 x false := by
  have l0 : l 0 = 0 := Nat.le_zero.1 (h.le 0 hN)
  have z : 0 ∈ evs N l w := mem_evs.2 ⟨hN, l0, by rw [h.plus hE hN]; decide⟩
  constructor
  · intro hl x hx
    have lx := Nat.lt_of_le_of_lt (h.le x hx) hx
    have r : l x ∈ evs N l w := mem_evs.2 ⟨lx, h.id x hx, by rw [h.plus hE lx]; decide⟩
    obtain ⟨a, ha⟩ := List.length_eq_one_iff.1 hl
    rw [ha] at z r
    simp only [List.mem_singleton] at z r
    exact (h.iff hN hx false).2 ⟨by omega, Or.inr (by rw [h.plus hE hN, h.plus hE hx]; rfl)⟩
  · intro hj
    have le : (evs N l w).length ≤ [0].length := nodup_le (evs_nodup N l w) fun a ha => by
      obtain ⟨h1, h2, _⟩ := mem_evs.1 ha
      have := ((h.iff hN h1 false).1 (hj a h1)).1
      simp only [List.mem_singleton]
      omega
    have := List.length_pos_of_mem z
    simp only [List.length_cons, List.length_nil] at le
    omega
/-- with Minus: no class is left exactly if each cell has an odd way back -/
theorem Uf.no_class {N : Nat} {E : List (Nat × Nat × Bool)} {l : Nat → Nat} {w : Nat → Int} (h : Uf N E l w) : (evs N l w).length = 0 ↔ ∀ x, x < N → Jn E x x true := by
  constructor
  · intro hl x hx
    have lx := Nat.lt_of_le_of_lt (h.le x hx) hx
    have e := List.length_eq_zero_iff.1 hl
    have r0 : w (l x) = 0 := Classical.byContradiction fun q => by
      have : l x ∈ evs N l w := mem_evs.2 ⟨lx, h.id x hx, q⟩
      rw [e] at this
      cases this
    exact (h.iff hx hx true).2 ⟨rfl, Or.inl (h.pin (l x) x lx hx (h.id x hx) r0)⟩
  · intro hj
    refine List.length_eq_zero_iff.2 (List.eq_nil_iff_forall_not_mem.2 fun a ha => ?_)
    obtain ⟨h1, _, h3⟩ := mem_evs.1 ha
    have := ((h.iff h1 h1 true).1 (hj a h1)).2.resolve_left h3
    rcases h.tri a h1 with q | q | q
    · rw [q] at this; cases this
    · rw [q] at this; cases this
    · exact h3 q
/-- with more edges, no class is new -/
theorem Uf.sub {N : Nat} {E F : List (Nat × Nat × Bool)} {l l' : Nat → Nat} {w w' : Nat → Int} (h : Uf N E l w) (g : Uf N F l' w') (hE : ∀ e ∈ E, e ∈ F) {r : Nat} (hr : r ∈ evs N l' w') : r ∈ evs N l w := by
  obtain ⟨h1, h2, h3⟩ := mem_evs.1 hr
  have lr := Nat.lt_of_le_of_lt (h.le r h1) h1
  have w0 : w r ≠ 0 := fun q => h3 (by
    have j := ((h.iff h1 h1 true).2 ⟨rfl, Or.inl q⟩).mono hE
    rcases ((g.iff h1 h1 true).1 j).2 with k | k
    · exact k
    · rcases g.tri r h1 with t | t | t
      · rw [t] at k; cases k
      · rw [t] at k; cases k
      · exact t)
  have j : ∃ m, Jn E r (l r) m := by
    rcases h.tri r h1 with q | q | q
    · exact ⟨false, h.snd r false h1 (Or.inr q)⟩
    · exact ⟨true, h.snd r true h1 (Or.inr q)⟩
    · exact absurd q w0
  obtain ⟨m, j⟩ := j
  have e := ((g.iff h1 lr m).1 (j.mono hE)).1
  have k := g.le (l r) lr
  have k2 := h.le r h1
  exact mem_evs.2 ⟨h1, by omega, w0⟩
theorem Uf.sub_len {N : Nat} {E F : List (Nat × Nat × Bool)} {l l' : Nat → Nat} {w w' : Nat → Int} (h : Uf N E l w) (g : Uf N F l' w') (hE : ∀ e ∈ E, e ∈ F) : (evs N l' w').length ≤ (evs N l w).length :=
  nodup_le (evs_nodup _ _ _) fun _ hr => h.sub g hE hr
theorem nodup_lt {α : Type} [DecidableEq α] {l U : List α} (hn : l.Nodup) (hs : ∀ a ∈ l, a ∈ U) {b : α} (hb : b ∈ U) (hl : b ∉ l) : l.length < U.length := by
  have := nodup_le (U := U) (l := b :: l) (List.nodup_cons.2 ⟨hl, hn⟩) fun a ha => by
    rcases List.mem_cons.1 ha with rfl | ha
    · exact hb
    · exact hs a ha
  rw [List.length_cons] at this
  exact this
/-- the first edge with Minus takes a class away -/
theorem Uf.sub_lt {N : Nat} {E F : List (Nat × Nat × Bool)} {l l' : Nat → Nat} {w w' : Nat → Int} (h : Uf N E l w) (g : Uf N F l' w') (hE : ∀ e ∈ E, e ∈ F) (hN : 0 < N) (hp : ¬ minusIn E) (hm : ∀ x, x < N → ∃ y, (x, y, true) ∈ F) : (evs N l' w').length < (evs N l w).length := by
  have key : ∃ r, r ∈ evs N l w ∧ r ∉ evs N l' w' := by
    by_cases h0 : ∃ r, r ∈ evs N l' w'
    · obtain ⟨r, hr⟩ := h0
      obtain ⟨r1, r2, r3⟩ := mem_evs.1 hr
      obtain ⟨y, hy⟩ := hm r r1
      obtain ⟨_, y1, y2, y3⟩ := g.cpl r y true hy
      have wr : w' r = 1 := by
        have := g.rt r r1
        rw [r2] at this
        exact this.resolve_right r3
      have wy : w' y = -1 := by
        have := y3.resolve_left r3
        rw [wr] at this
        simpa [sg] using this
      have ly := Nat.lt_of_le_of_lt (h.le y y1) y1
      refine ⟨l y, mem_evs.2 ⟨ly, h.id y y1, by rw [h.plus hp ly]; decide⟩, fun q => ?_⟩
      obtain ⟨_, q2, q3⟩ := mem_evs.1 q
      have j := (h.snd y false y1 (Or.inr (h.plus hp y1))).mono hE
      have k := ((g.iff y1 ly false).1 j).2
      have wl : w' (l y) = 1 := by
        have := g.rt (l y) ly
        rw [q2] at this
        exact this.resolve_right q3
      rw [wy, wl] at k
      rcases k with k | k <;> cases k
    · have l0 : l 0 = 0 := Nat.le_zero.1 (h.le 0 hN)
      exact ⟨0, mem_evs.2 ⟨hN, l0, by rw [h.plus hp hN]; decide⟩, fun q => h0 ⟨0, q⟩⟩
  obtain ⟨r, h1, h2⟩ := key
  exact nodup_lt (evs_nodup _ _ _) (fun _ hr => h.sub g hE hr) h1 h2
end Pl

/- Layer 3, plain: with more signs a proof stays one, and what can't be left out once never can. -/
namespace Pl

/-- Minus among signs -/
def minusS (G : List (Nat × Bool)) : Bool := G.any fun g => g.2
theorem minusS_in {s : Nat} {G : List (Nat × Bool)} (hs : 0 < s * s) : minusIn (edges s G) ↔ minusS G = true := by
  unfold minusIn minusS
  rw [List.any_eq_true]
  constructor
  · rintro ⟨x, y, h⟩
    obtain ⟨_, t, ht, _⟩ := mem_edges.1 h
    exact ⟨_, ht, rfl⟩
  · rintro ⟨g, hg, h⟩
    refine ⟨0, tk s g.1 0, mem_edges.2 ⟨hs, g.1, ?_, rfl⟩⟩
    rw [← h]
    exact hg
/-- how many heights can be chosen -/
def free (s : Nat) (G : List (Nat × Bool)) (l : Nat → Nat) (w : Nat → Int) : Int := (evs (s * s) l w).length - if minusS G then 0 else 1
theorem edges_mono {s : Nat} {G K : List (Nat × Bool)} (h : ∀ g ∈ G, g ∈ K) : ∀ e ∈ edges s G, e ∈ edges s K := fun e he => by
  obtain ⟨x, y, m⟩ := e
  obtain ⟨hx, t, ht, k⟩ := mem_edges.1 he
  exact mem_edges.2 ⟨hx, t, h _ ht, k⟩
/-- with more signs there is not more to choose -/
theorem free_le {s : Nat} (hs : 0 < s * s) {G K : List (Nat × Bool)} (h : ∀ g ∈ G, g ∈ K) {l l' : Nat → Nat} {w w' : Nat → Int} (hG : Uf (s * s) (edges s G) l w) (hK : Uf (s * s) (edges s K) l' w') : free s K l' w' ≤ free s G l w := by
  have h1 := hG.sub_len hK (edges_mono h)
  unfold free
  by_cases a : minusS G = true
  · have b : minusS K = true := by
      unfold minusS at a ⊢
      rw [List.any_eq_true] at a ⊢
      obtain ⟨g, hg, q⟩ := a
      exact ⟨g, h g hg, q⟩
    rw [if_pos a, if_pos b]
    omega
  · by_cases b : minusS K = true
    · have h2 := hG.sub_lt hK (edges_mono h) hs (fun q => a ((minusS_in hs).1 q)) fun x hx => by
        unfold minusS at b
        rw [List.any_eq_true] at b
        obtain ⟨g, hg, q⟩ := b
        exact ⟨tk s g.1 x, mem_edges.2 ⟨hx, g.1, by rw [← q]; exact hg, rfl⟩⟩
      rw [if_neg a, if_pos b]
      omega
    · rw [if_neg a, if_neg b]
      omega
theorem free_nonneg {s : Nat} (hs : 0 < s * s) {G : List (Nat × Bool)} {l : Nat → Nat} {w : Nat → Int} (hG : Uf (s * s) (edges s G) l w) : 0 ≤ free s G l w := by
  unfold free
  by_cases a : minusS G = true
  · rw [if_pos a]; omega
  · rw [if_neg a]
    have l0 : l 0 = 0 := Nat.le_zero.1 (hG.le 0 hs)
    have : 0 ∈ evs (s * s) l w := mem_evs.2 ⟨hs, l0, by rw [hG.plus (fun q => a ((minusS_in hs).1 q)) hs]; decide⟩
    have := List.length_pos_of_mem this
    omega

/-- what can be left out is left out, from the end on -/
def prune {α : Type} (P : List α → Bool) : Nat → List α → List α
  | 0, l => l
  | i + 1, l => prune P i (if P (l.eraseIdx i) then l.eraseIdx i else l)
theorem erase_comm {α : Type} : ∀ (l : List α) (i j : Nat), i ≤ j → (l.eraseIdx i).eraseIdx j = (l.eraseIdx (j + 1)).eraseIdx i
  | [], _, _, _ => by simp
  | a :: r, 0, j, _ => by simp
  | a :: r, i + 1, j, h => by
    obtain ⟨j, rfl⟩ : ∃ q, j = q + 1 := ⟨j - 1, by omega⟩
    simp only [List.eraseIdx_cons_succ]
    rw [erase_comm r i j (by omega)]
theorem prune_spec {α : Type} {P : List α → Bool} (mono : ∀ a b : List α, (∀ x ∈ a, x ∈ b) → P a = true → P b = true) : ∀ (i : Nat) (l : List α), P l = true → i ≤ l.length → (∀ j, i ≤ j → j < l.length → P (l.eraseIdx j) = false) →
    P (prune P i l) = true ∧ (∀ x ∈ prune P i l, x ∈ l) ∧ ∀ j, j < (prune P i l).length → P ((prune P i l).eraseIdx j) = false
  | 0, l, h, _, hj => ⟨h, fun _ hx => hx, fun j hl => hj j (Nat.zero_le _) hl⟩
  | i + 1, l, h, hi, hj => by
    unfold prune
    by_cases hp : P (l.eraseIdx i) = true
    · rw [if_pos hp]
      have hlen : (l.eraseIdx i).length = l.length - 1 := List.length_eraseIdx_of_lt (by omega)
      obtain ⟨a, b, c⟩ := prune_spec mono i (l.eraseIdx i) hp (by omega) fun j h1 h2 => by
        have k := hj (j + 1) (by omega) (by omega)
        rw [erase_comm l i j h1]
        refine Bool.eq_false_iff.2 fun q => ?_
        rw [mono _ _ (fun x hx => List.mem_of_mem_eraseIdx hx) q] at k
        cases k
      exact ⟨a, fun x hx => List.mem_of_mem_eraseIdx (b x hx), c⟩
    · rw [if_neg hp]
      refine prune_spec mono i l h (by omega) fun j h1 h2 => ?_
      rcases Nat.lt_or_ge i j with q | q
      · exact hj j q h2
      · obtain rfl : j = i := by omega
        exact Bool.eq_false_iff.2 hp
end Pl

/- Layer 3, plain: freedom; spreading a shape over the plates. -/
namespace Pl
/-- freedom -/
def frd (s : Nat) (G : List (Nat × Bool)) : Int := free s G (lsF (clsL s G).1) (wsF (clsL s G).2)

/-- one cell of one plate -/
def pcs (P : Nat → Nat → Int) (q y : Nat) (v : Int) : Nat → Nat → Int := fun a c => if a = q then if c = y then v else P a c else P a c
/-- a state's cells, behind some of them -/
def sprM (sh : Nat → Int) (q : Nat) (m : Bool) (P : Nat → Nat → Int) (l : List (Nat × Nat)) : Nat → Nat → Int := l.foldl (fun P e => pcs P q e.2 (if m then -sh e.1 else sh e.1)) P
theorem sprM_snoc (sh : Nat → Int) (q : Nat) (m : Bool) (P : Nat → Nat → Int) (l : List (Nat × Nat)) (e : Nat × Nat) : sprM sh q m P (l ++ [e]) = pcs (sprM sh q m P l) q e.2 (if m then -sh e.1 else sh e.1) := by
  unfold sprM
  rw [List.foldl_append]
  rfl
/-- spread -/
def spr (s : Nat) (sh : Nat → Int) (P : Nat → Nat → Int) (Y : List St) : Nat → Nat → Int := Y.foldl (fun P y => sprM sh y.p.toNat y.m P (mvs s y.t (s * s))) P
theorem spr_snoc (s : Nat) (sh : Nat → Int) (P : Nat → Nat → Int) (Y : List St) (y : St) : spr s sh P (Y ++ [y]) = sprM sh y.p.toNat y.m (spr s sh P Y) (mvs s y.t (s * s)) := by
  unfold spr
  rw [List.foldl_append]
  rfl
end Pl
