/- Contracts of the specification of layer 3: Follow. -/
import Derived.Test.YtmkjmpkicmadcaaDoorZJzze
import Derived.Test.YtmkjmpkicmadcaaDoorZ13
import Derived.Test.YtmkjmpkicmadcaaDoorZ12
set_option linter.unusedSimpArgs false
set_option linter.unusedVariables false
namespace Go.Proofs.YtmkjmpkicmadcaaDoor
open Go.RowKit

theorem rStep_any (s m : Int) (a : Option Addr) (q cap : Nat) (L : List Pl.Wk) (hq : L.length = q) (hq2 : q ≤ 16) (hok : Hid (Pl.Ok m L)) (p : Int) (t : Nat) (mn : Bool) (ht : t < 8) (k : Int) (hk1 : -(q : Int) ≤ k) (hk2 : k < q) (w : World) (hL : Hid (WksAt w a L)) :
    Calls Tryd.prog 43 #[.agg #[.int .i64 s, .int .i64 m, .slice a q cap], .agg #[.int .i64 p, .int .i64 (t : Int), .bool mn], .int .i64 k] w fun e w' => e = .returned (.tuple #[stV (Pl.stp L ⟨p, t, mn⟩ k).1, .bool (Pl.stp L ⟨p, t, mn⟩ k).2]) ∧ Below w.heap.size w w' := by
  obtain ⟨j, hj, hjq⟩ : ∃ j : Nat, Pl.wof k = j ∧ j < q := by
    refine ⟨(Pl.wof k).toNat, ?_, ?_⟩ <;> (unfold Pl.wof; split <;> omega)
  obtain ⟨x, rfl, hl3⟩ := hL.out j (by omega)
  obtain ⟨f, g, u, hl⟩ : ∃ f g u, L.getD j Pl.noW = ⟨f, g, u⟩ := ⟨_, _, _, rfl⟩
  have hokj := Pl.okW_spec (hok.out j (by omega))
  rw [hl] at hl3 hokj
  obtain ⟨o1, o2, o3, o4, o5, o6, o7⟩ := hokj
  simp only at o6 o7
  obtain ⟨un, hun⟩ : ∃ un : Nat, u = un := ⟨u.toNat, by omega⟩
  subst hun
  have hun8 : un < 8 := by omega
  have hdir : Pl.dirW L k = if k < 0 then ⟨g, f, (Pl.inv un : Nat)⟩ else ⟨f, g, (un : Int)⟩ := by
    unfold Pl.dirW
    rw [hj, Int.toNat_natCast, hl]
    rfl
  unfold Pl.stp
  rw [hdir]
  by_cases hk0 : k < 0
  · rw [if_pos hk0]
    have e : k = -1 - (j : Int) := by unfold Pl.wof at hj; rw [if_pos hk0] at hj; omega
    exact rStep_neg s m x q cap p t mn ht k j e hjq hq2 f g un hun8 _ (Lib.hid rfl) _ (Lib.hid rfl) w hl3
  · rw [if_neg hk0]
    have e : k = (j : Int) := by unfold Pl.wof at hj; rw [if_neg hk0] at hj; omega
    exact rStep_pos s m x q cap p t mn ht k j e hjq hq2 f g un hun8 _ (Lib.hid rfl) _ (Lib.hid rfl) w hl3

/-- a spot in a box of its own -/
def SP (W : World) (b : Nat) (y : Pl.St) : Prop := W.rowIs b 44 3 (fun i => if i = 0 then .int .i64 y.p else if i = 1 then .int .i64 (y.t : Int) else .bool y.m)
theorem SP.below {W W' : World} {b : Nat} {y : Pl.St} (h : SP W b y) (hb : Below W.heap.size W W') : SP W' b y := Below.row' hb h
theorem SP.set {W : World} {b : Nat} {y : Pl.St} (h : SP W b y) (z : Pl.St) : SP (((W.setCell ⟨b, 0, none⟩ (.int .i64 z.p)).setCell ⟨b, 1, none⟩ (.int .i64 (z.t : Int))).setCell ⟨b, 2, none⟩ (.bool z.m)) b z :=
  (((World.rowIs.set h 0 _).set 1 _).set 2 _).congr (fun i hi => by
    have : i = 0 ∨ i = 1 ∨ i = 2 := by omega
    rcases this with rfl | rfl | rfl <;> simp)

theorem sp_new (X : World) (y : Pl.St) : SP (X.alloc (Obj.cells #[.int .i64 y.p, .int .i64 (y.t : Int), .bool y.m] 44)) X.heap.size y :=
  World.rowIs_alloc X _ _ _ (fun i hi => by
    match i, hi with
    | 0, _ => rfl
    | 1, _ => rfl
    | 2, _ => rfl)
theorem far3s {Z : World} {b c : Nat} {y : Pl.St} {u0 u1 u2 : Value} (h : SP Z c y) (hbc : c < b) : SP (((Z.setCell ⟨b, 0, none⟩ u0).setCell ⟨b, 1, none⟩ u1).setCell ⟨b, 2, none⟩ u2) c y :=
  World.rowIs.of_block h (((((Below.refl (c + 1) Z).setCell (p := ⟨b, 0, none⟩) hbc _).setCell (p := ⟨b, 1, none⟩) hbc _).setCell (p := ⟨b, 2, none⟩) hbc _).block c (Nat.lt_succ_self c))

set_option maxRecDepth 100000 in
set_option maxHeartbeats 4000000 in
theorem rFollow_any (s m : Int) (a : Option Addr) (q cap : Nat) (L : List Pl.Wk) (hq : L.length = q) (hq2 : q ≤ 16) (hok : Hid (Pl.Ok m L)) (p : Int) (x : Option Addr) (n cap2 : Nat) (l : List Int) (hn : Hid (l.length = n)) (hn2 : n ≤ 96)
    (hix : Hid (∀ k ∈ l, k ∈ Pl.stps q)) (w : World) (hL : Hid (WksAt w a L)) (hl : Hid (NsAt w x l)) :
    Calls Tryd.prog 18 #[.agg #[.int .i64 s, .int .i64 m, .slice a q cap], .int .i64 p, .slice x n cap2] w fun e w' => e = .returned (.tuple (rsV (Pl.runs (Pl.adv L) ⟨p, 0, false⟩ l))) ∧ Below w.heap.size w w' := by
  obtain ⟨R, hR⟩ : ∃ R, rsV (Pl.runs (Pl.adv L) ⟨p, 0, false⟩ l) = R := ⟨_, rfl⟩
  rw [hR]
  replace hR := Lib.hid hR
  go_enter Tryd.func18, Tryd.ntmps18
  go_wp2
  have k0 : (((w.alloc (Obj.cells #[.int .i64 s, .int .i64 m, .slice a q cap] 34)).alloc (Obj.cells #[.int .i64 0, .int .i64 0, .bool false] 44)).alloc (Obj.cells #[.int .i64 p, .int .i64 0, .bool false] 44)).cell? ⟨w.heap.size, 0, none⟩ = some (.int .i64 s) := by simp [go_sem]
  have k1 : (((w.alloc (Obj.cells #[.int .i64 s, .int .i64 m, .slice a q cap] 34)).alloc (Obj.cells #[.int .i64 0, .int .i64 0, .bool false] 44)).alloc (Obj.cells #[.int .i64 p, .int .i64 0, .bool false] 44)).cell? ⟨w.heap.size, 1, none⟩ = some (.int .i64 m) := by simp [go_sem]
  have k2 : (((w.alloc (Obj.cells #[.int .i64 s, .int .i64 m, .slice a q cap] 34)).alloc (Obj.cells #[.int .i64 0, .int .i64 0, .bool false] 44)).alloc (Obj.cells #[.int .i64 p, .int .i64 0, .bool false] 44)).cell? ⟨w.heap.size, 2, none⟩ = some (.slice a q cap) := by simp [go_sem]
  have r1 : SP (((w.alloc (Obj.cells #[.int .i64 s, .int .i64 m, .slice a q cap] 34)).alloc (Obj.cells #[.int .i64 0, .int .i64 0, .bool false] 44)).alloc (Obj.cells #[.int .i64 p, .int .i64 0, .bool false] 44)) (w.heap.size + 1) ⟨0, 0, false⟩ := by
    have h : SP ((w.alloc (Obj.cells #[.int .i64 s, .int .i64 m, .slice a q cap] 34)).alloc (Obj.cells #[.int .i64 0, .int .i64 0, .bool false] 44)) (w.heap.size + 1) ⟨0, 0, false⟩ := by
      have h := sp_new (w.alloc (Obj.cells #[.int .i64 s, .int .i64 m, .slice a q cap] 34)) ⟨0, 0, false⟩
      simpa using h
    exact h.below (below_alloc (Below.refl _ _) _)
  have r2 : SP (((w.alloc (Obj.cells #[.int .i64 s, .int .i64 m, .slice a q cap] 34)).alloc (Obj.cells #[.int .i64 0, .int .i64 0, .bool false] 44)).alloc (Obj.cells #[.int .i64 p, .int .i64 0, .bool false] 44)) (w.heap.size + 1 + 1) ⟨p, 0, false⟩ := by
    have h := sp_new ((w.alloc (Obj.cells #[.int .i64 s, .int .i64 m, .slice a q cap] 34)).alloc (Obj.cells #[.int .i64 0, .int .i64 0, .bool false] 44)) ⟨p, 0, false⟩
    simpa using h
  have hbw : Below w.heap.size w (((w.alloc (Obj.cells #[.int .i64 s, .int .i64 m, .slice a q cap] 34)).alloc (Obj.cells #[.int .i64 0, .int .i64 0, .bool false] 44)).alloc (Obj.cells #[.int .i64 p, .int .i64 0, .bool false] 44)) := below_alloc (below_alloc (below_alloc (Below.refl _ _) _) _) _
  generalize ((w.alloc (Obj.cells #[.int .i64 s, .int .i64 m, .slice a q cap] 34)).alloc (Obj.cells #[.int .i64 0, .int .i64 0, .bool false] 44)).alloc (Obj.cells #[.int .i64 p, .int .i64 0, .bool false] 44) = X at *
  go_loopw [9] (fun i wr => ∃ (k : Nat) (pp : Int) (t : Nat) (mm : Bool), k ≤ n ∧ i = .int .i64 k ∧ t < 8 ∧ wr.cell? ⟨w.heap.size, 0, none⟩ = some (.int .i64 s) ∧ wr.cell? ⟨w.heap.size, 1, none⟩ = some (.int .i64 m) ∧ wr.cell? ⟨w.heap.size, 2, none⟩ = some (.slice a q cap) ∧ SP wr (w.heap.size + 1) ⟨0, 0, false⟩ ∧ SP wr (w.heap.size + 1 + 1) ⟨pp, t, mm⟩ ∧ Below w.heap.size w wr ∧ Hid (rsV (Pl.runs (Pl.adv L) ⟨pp, t, mm⟩ (l.drop k)) = R)) (fun i _ => n - (RowKit.intOf i).toNat)
  case atStart => exact ⟨0, p, 0, false, Nat.zero_le _, rfl, by omega, k0, k1, k2, r1, r2, hbw, hR⟩
  case round =>
    clear hbw k0 k1 k2 r1 r2 hR
    clear X
    obtain ⟨k, pp, t, mm, hk, rfl, ht, k0, k1, k2, r1, r2, hb, hfo⟩ := hrel
    have e0 : wr.cell? ⟨w.heap.size + 1 + 1, 0, none⟩ = some (.int .i64 pp) := World.rowIs.cell r2 (i := 0) (by omega)
    have e1 : wr.cell? ⟨w.heap.size + 1 + 1, 1, none⟩ = some (.int .i64 (t : Int)) := World.rowIs.cell r2 (i := 1) (by omega)
    have e2 : wr.cell? ⟨w.heap.size + 1 + 1, 2, none⟩ = some (.bool mm) := World.rowIs.cell r2 (i := 2) (by omega)
    by_cases hlt : k < n
    · have hkl : k < l.length := by have := hn.out; omega
      obtain ⟨x', rfl, hcx⟩ := hl.out k hkl
      have hc0 := (hb.cell (block_lt_of_cell hcx)).trans hcx
      have hin := hix.out (l.getD k 0) (getD_in hkl)
      have hst : Hid (R = rsV ((Pl.adv L ⟨pp, t, mm⟩ (l.getD k 0)).bind fun b => Pl.runs (Pl.adv L) b (l.drop (k + 1)))) := Lib.hid (by
        rw [← hfo.out, drop_at hkl]
        rfl)
      obtain ⟨g, hg⟩ : ∃ g, l.getD k 0 = g := ⟨_, rfl⟩
      rw [hg] at hc0 hin hst
      have hin2 := Pl.mem_stps.1 hin
      have HA := fun (W : World) (hW : Below wr.heap.size wr W) => rStep_any s m a q cap L hq hq2 hok pp t mm ht g hin2.1 hin2.2 W (Lib.hid (hL.out.below (hb.trans (hW.mono hb.size))))
      have hadv := Pl.adv_stp L ⟨pp, t, mm⟩ g
      have hai := fun z => Pl.adv_in hok.out (s := ⟨pp, t, mm⟩) (y := z) (k := g) (by rw [hq]; exact hin) ht
      clear hcx hg hfo hin hin2
      have hi5 : (k : Int) < (n : Int) := by omega
      have hn5 : (n : Int) ≤ 96 := by omega
      obtain ⟨p2, t2, m2, bb, hY⟩ : ∃ p2 t2 m2 bb, Pl.stp L ⟨pp, t, mm⟩ g = (⟨p2, t2, m2⟩, bb) := ⟨_, _, _, _, rfl⟩
      rw [hY] at HA hadv
      simp only [stV] at HA
      simp only at hadv
      cases bb with
      | false =>
        have ha : Pl.adv L ⟨pp, t, mm⟩ g = none := hadv
        rw [ha] at hst
        have hst2 : R = #[.agg #[.int .i64 0, .int .i64 0, .bool false], .bool false] := by rw [hst.out]; rfl
        subst hst2
        clear hst hai ha hadv hY
        replace HA := Lib.hid HA
        have hS4 := Lib.hid (fun (W : World) (hb9 : Below wr.heap.size wr W) => (⟨kept1 k0 hb9, kept1 k1 hb9, kept1 k2 hb9, kept1 e0 hb9, kept1 e1 hb9, kept1 e2 hb9, kept1 hc0 hb9⟩ : W.cell? ⟨w.heap.size, 0, none⟩ = some (.int .i64 s) ∧ W.cell? ⟨w.heap.size, 1, none⟩ = some (.int .i64 m) ∧ W.cell? ⟨w.heap.size, 2, none⟩ = some (.slice a q cap) ∧ W.cell? ⟨w.heap.size + 1 + 1, 0, none⟩ = some (.int .i64 pp) ∧ W.cell? ⟨w.heap.size + 1 + 1, 1, none⟩ = some (.int .i64 (t : Int)) ∧ W.cell? ⟨w.heap.size + 1 + 1, 2, none⟩ = some (.bool mm) ∧ W.cell? (x'.add k) = some (.int .i64 g)))
        go_upto_region 5 with fail
        refine wp_region_held_drew (S := fun w' => w'.cell? ⟨w.heap.size, 0, none⟩ = some (.int .i64 s) ∧ w'.cell? ⟨w.heap.size, 1, none⟩ = some (.int .i64 m) ∧ w'.cell? ⟨w.heap.size, 2, none⟩ = some (.slice a q cap) ∧ w'.cell? ⟨w.heap.size + 1 + 1, 0, none⟩ = some (.int .i64 pp) ∧ w'.cell? ⟨w.heap.size + 1 + 1, 1, none⟩ = some (.int .i64 (t : Int)) ∧ w'.cell? ⟨w.heap.size + 1 + 1, 2, none⟩ = some (.bool mm) ∧ w'.cell? (x'.add k) = some (.int .i64 g)) (by kernel_rfl) (hS4.out _ (Below.refl wr.heap.size wr).drew) (fun hHeld => ?_)
        refine wpAnyH_take (i := 0) (v := ?_) rfl (by kernel_rfl) (by kernel_rfl) (by kernel_rfl) (fun _ _ _ h => h) (Or.inl ⟨by rfl, ?_⟩) (by assumption) ?_
        rotate_left 1
        · (intro w hSw; (try dsimp only at hSw); go_simp; all_goals with_reducible rfl)
        try simp only [Act.put, List.setIfInBounds_toArray, List.set_cons_zero, List.set_cons_succ]
        refine wpAnyH_take (i := 1) (v := ?_) rfl (by kernel_rfl) (by kernel_rfl) (by kernel_rfl) (fun _ _ _ h => h) (Or.inl ⟨by rfl, ?_⟩) (by assumption) ?_
        rotate_left 1
        · (intro w hSw; (try dsimp only at hSw); go_simp; all_goals with_reducible rfl)
        try simp only [Act.put, List.setIfInBounds_toArray, List.set_cons_zero, List.set_cons_succ]
        refine wpAnyH_take (i := 2) (v := ?_) rfl (by kernel_rfl) (by kernel_rfl) (by kernel_rfl) (fun _ _ _ h => h) (Or.inl ⟨by rfl, ?_⟩) (by assumption) ?_
        rotate_left 1
        · (intro w hSw; (try dsimp only at hSw); go_simp; all_goals with_reducible rfl)
        try simp only [Act.put, List.setIfInBounds_toArray, List.set_cons_zero, List.set_cons_succ]
        refine wpAnyH_take (i := 3) (v := ?_) rfl (by kernel_rfl) (by kernel_rfl) (by kernel_rfl) (fun _ _ _ h => h) (Or.inl ⟨by rfl, ?_⟩) (by assumption) ?_
        rotate_left 1
        · (intro w hSw; (try dsimp only at hSw); go_simp; all_goals with_reducible rfl)
        try simp only [Act.put, List.setIfInBounds_toArray, List.set_cons_zero, List.set_cons_succ]
        refine wpAnyH_take (i := 4) (v := ?_) rfl (by kernel_rfl) (by kernel_rfl) (by kernel_rfl) (fun _ _ _ h => h) (Or.inl ⟨by rfl, ?_⟩) (by assumption) ?_
        rotate_left 1
        · (intro w hSw; (try dsimp only at hSw); go_simp; all_goals with_reducible rfl)
        try simp only [Act.put, List.setIfInBounds_toArray, List.set_cons_zero, List.set_cons_succ]
        refine wpAnyH_take (i := 5) (v := ?_) rfl (by kernel_rfl) (by kernel_rfl) (by kernel_rfl) (fun _ _ _ h => h) (Or.inl ⟨by rfl, ?_⟩) (by assumption) ?_
        rotate_left 1
        · (intro w hSw; (try dsimp only at hSw); go_simp; all_goals with_reducible rfl)
        try simp only [Act.put, List.setIfInBounds_toArray, List.set_cons_zero, List.set_cons_succ]
        have hbD : Below wr.heap.size wr wr.drew := (Below.refl wr.heap.size wr).drew
        generalize wr.drew = D at *
        refine wpAnyH_ready (rs := [6, 10]) (by kernel_rfl) (by simp) ?_
        refine AllReadyH.cons rfl (fun K hK => ?_) (AllReadyH.cons rfl (fun K hK => ?_) (AllReadyH.nil))
        · go_simp
          with_reducible refine (HA.out _ hbD).mono ?_
          rintro e w2 ⟨rfl, hb2'⟩
          have hb2 : Below wr.heap.size wr w2 := hbD.trans (hb2'.mono hbD.size)
          refine hK.out _ _ (hS4.out _ hb2) (fun hHeld2 => ?_)
          clear hK K hHeld
          have hHeld := hHeld2
          clear hHeld2
          try simp only [Act.put, List.setIfInBounds_toArray, List.set_cons_zero, List.set_cons_succ, List.getElem_toArray, List.getElem_cons_succ, List.getElem_cons_zero]
          refine wpAnyH_take (i := 7) (v := ?_) rfl (by kernel_rfl) (by kernel_rfl) (by kernel_rfl) (fun _ _ _ h => h) (Or.inl ⟨by rfl, ?_⟩) (by assumption) ?_
          rotate_left 1
          · (intro w hSw; (try dsimp only at hSw); go_simp; all_goals with_reducible rfl)
          try simp only [Act.put, List.setIfInBounds_toArray, List.set_cons_zero, List.set_cons_succ]
          refine wpAnyH_take (i := 8) (v := ?_) rfl (by kernel_rfl) (by kernel_rfl) (by kernel_rfl) (fun _ _ _ h => h) (Or.inl ⟨by rfl, ?_⟩) (by assumption) ?_
          rotate_left 1
          · (intro w hSw; (try dsimp only at hSw); go_simp; all_goals with_reducible rfl)
          try simp only [Act.put, List.setIfInBounds_toArray, List.set_cons_zero, List.set_cons_succ]
          refine wpAnyH_take (i := 9) (v := ?_) rfl (by kernel_rfl) (by kernel_rfl) (by kernel_rfl) (fun _ _ _ h => h) (Or.inl ⟨by rfl, ?_⟩) (by assumption) ?_
          rotate_left 1
          · (intro w hSw; (try dsimp only at hSw); go_simp; all_goals with_reducible rfl)
          try simp only [Act.put, List.setIfInBounds_toArray, List.set_cons_zero, List.set_cons_succ]
          refine wpAnyH_ready (rs := [10]) (by kernel_rfl) (by simp) ?_
          refine AllReadyH.cons rfl (fun K hK => ?_) (AllReadyH.nil)
          have rA := sp_new w2 ⟨0, 0, false⟩
          have hbU : Below wr.heap.size wr (w2.alloc (Obj.cells #[.int .i64 0, .int .i64 0, .bool false] 44)) := below_alloc hb2 _
          have hge : wr.heap.size ≤ w2.heap.size := hb2.size
          go_simp
          refine hK.out _ _ (hS4.out _ hbU) (fun hHeld2 => ?_)
          generalize w2.alloc (Obj.cells #[.int .i64 0, .int .i64 0, .bool false] 44) = U at *
          generalize w2.heap.size = sb at *
          clear hK K hHeld
          have hHeld := hHeld2
          clear hHeld2
          try simp only [Act.put, List.setIfInBounds_toArray, List.set_cons_zero, List.set_cons_succ, List.getElem_toArray, List.getElem_cons_succ, List.getElem_cons_zero]
          have a0 : U.cell? ⟨sb, 0, none⟩ = some (.int .i64 0) := World.rowIs.cell rA (i := 0) (by omega)
          have a1 : U.cell? ⟨sb, 1, none⟩ = some (.int .i64 0) := World.rowIs.cell rA (i := 1) (by omega)
          have a2 : U.cell? ⟨sb, 2, none⟩ = some (.bool false) := World.rowIs.cell rA (i := 2) (by omega)
          have x0 := World.rowIs.frozen rA 0
          have x1 := World.rowIs.frozen rA 1
          have x2 := World.rowIs.frozen rA 2
          have rS : SP (((U.setCell ⟨sb, 0, none⟩ (.int .i64 p2)).setCell ⟨sb, 1, none⟩ (.int .i64 (t2 : Int))).setCell ⟨sb, 2, none⟩ (.bool m2)) sb ⟨p2, t2, m2⟩ := SP.set rA ⟨p2, t2, m2⟩
          have hbZ : Below wr.heap.size wr (((U.setCell ⟨sb, 0, none⟩ (.int .i64 p2)).setCell ⟨sb, 1, none⟩ (.int .i64 (t2 : Int))).setCell ⟨sb, 2, none⟩ (.bool m2)) := ((hbU.setCell (p := ⟨sb, 0, none⟩) hge _).setCell (p := ⟨sb, 1, none⟩) hge _).setCell (p := ⟨sb, 2, none⟩) hge _
          refine wpAnyH_ready (rs := [11]) (by kernel_rfl) (by simp) ?_
          refine AllReadyH.cons rfl (fun K hK => ?_) (AllReadyH.nil)
          go_simp
          refine hK.out _ _ (hS4.out _ hbZ) (fun hHeld2 => ?_)
          clear a0 a1 a2 x0 x1 x2 rA hbU
          generalize ((U.setCell ⟨sb, 0, none⟩ (.int .i64 p2)).setCell ⟨sb, 1, none⟩ (.int .i64 (t2 : Int))).setCell ⟨sb, 2, none⟩ (.bool m2) = Z at *
          clear hK K hHeld
          have hHeld := hHeld2
          clear hHeld2
          try simp only [Act.put, List.setIfInBounds_toArray, List.set_cons_zero, List.set_cons_succ, List.getElem_toArray, List.getElem_cons_succ, List.getElem_cons_zero]
          refine wpAnyH_take (i := 12) (v := ?_) rfl (by kernel_rfl) (by kernel_rfl) (by kernel_rfl) (fun _ _ _ h => h) (Or.inl ⟨by rfl, ?_⟩) (by assumption) ?_
          rotate_left 1
          · (intro w hSw; (try dsimp only at hSw); go_simp; all_goals with_reducible rfl)
          try simp only [Act.put, List.setIfInBounds_toArray, List.set_cons_zero, List.set_cons_succ]
          refine wpAnyH_done (by kernel_rfl) ?_ _
          try simp only [Act.put, List.setIfInBounds_toArray, List.set_cons_zero, List.set_cons_succ, List.getElem_toArray, List.getElem_cons_succ, List.getElem_cons_zero]
          clear hHeld
          have bZ : Below w.heap.size w Z := hb.trans (hbZ.mono hb.size)
          have rZ1 : SP Z (w.heap.size + 1) ⟨0, 0, false⟩ := r1.below hbZ
          go_upto_region 7 with fail
          have t0 : Z.cell? ⟨w.heap.size + 1, 0, none⟩ = some (.int .i64 0) := World.rowIs.cell rZ1 (i := 0) (by omega)
          have t1 : Z.cell? ⟨w.heap.size + 1, 1, none⟩ = some (.int .i64 0) := World.rowIs.cell rZ1 (i := 1) (by omega)
          have t2 : Z.cell? ⟨w.heap.size + 1, 2, none⟩ = some (.bool false) := World.rowIs.cell rZ1 (i := 2) (by omega)
          have z0 := World.rowIs.frozen rZ1 0
          have z1 := World.rowIs.frozen rZ1 1
          have z2 := World.rowIs.frozen rZ1 2
          have hS : SP (((Z.setCell ⟨w.heap.size + 1, 0, none⟩ (.int .i64 0)).setCell ⟨w.heap.size + 1, 1, none⟩ (.int .i64 0)).setCell ⟨w.heap.size + 1, 2, none⟩ (.bool false)) (w.heap.size + 1) ⟨0, 0, false⟩ := SP.set rZ1 ⟨0, 0, false⟩
          have hq0 : (((Z.setCell ⟨w.heap.size + 1, 0, none⟩ (.int .i64 0)).setCell ⟨w.heap.size + 1, 1, none⟩ (.int .i64 0)).setCell ⟨w.heap.size + 1, 2, none⟩ (.bool false)).cell? ⟨w.heap.size + 1, 0, none⟩ = some (.int .i64 0) := World.rowIs.cell hS (i := 0) (by omega)
          have hq1 : (((Z.setCell ⟨w.heap.size + 1, 0, none⟩ (.int .i64 0)).setCell ⟨w.heap.size + 1, 1, none⟩ (.int .i64 0)).setCell ⟨w.heap.size + 1, 2, none⟩ (.bool false)).cell? ⟨w.heap.size + 1, 1, none⟩ = some (.int .i64 0) := World.rowIs.cell hS (i := 1) (by omega)
          have hq2 : (((Z.setCell ⟨w.heap.size + 1, 0, none⟩ (.int .i64 0)).setCell ⟨w.heap.size + 1, 1, none⟩ (.int .i64 0)).setCell ⟨w.heap.size + 1, 2, none⟩ (.bool false)).cell? ⟨w.heap.size + 1, 2, none⟩ = some (.bool false) := World.rowIs.cell hS (i := 2) (by omega)
          have hZ : Below w.heap.size w (((Z.setCell ⟨w.heap.size + 1, 0, none⟩ (.int .i64 0)).setCell ⟨w.heap.size + 1, 1, none⟩ (.int .i64 0)).setCell ⟨w.heap.size + 1, 2, none⟩ (.bool false)) := ((bZ.setCell (p := ⟨w.heap.size + 1, 0, none⟩) (by show w.heap.size ≤ w.heap.size + 1; omega) _).setCell (p := ⟨w.heap.size + 1, 1, none⟩) (by show w.heap.size ≤ w.heap.size + 1; omega) _).setCell (p := ⟨w.heap.size + 1, 2, none⟩) (by show w.heap.size ≤ w.heap.size + 1; omega) _
          go_wp2
          generalize ((Z.setCell ⟨w.heap.size + 1, 0, none⟩ (.int .i64 0)).setCell ⟨w.heap.size + 1, 1, none⟩ (.int .i64 0)).setCell ⟨w.heap.size + 1, 2, none⟩ (.bool false) = V at *
          refine bodyPost_ret (v := .tuple #[.agg #[.int .i64 0, .int .i64 0, .bool false], .bool false]) (by simp [results, Tryd.results18, go_sem, hq0, hq1, hq2]) rfl ?_
          exact ⟨rfl, hZ⟩
        · have rA0 := sp_new D ⟨0, 0, false⟩
          have hbA : Below wr.heap.size wr (D.alloc (Obj.cells #[.int .i64 0, .int .i64 0, .bool false] 44)) := below_alloc hbD _
          have hge : wr.heap.size ≤ D.heap.size := hbD.size
          go_simp
          refine hK.out _ _ (hS4.out _ hbA) (fun hHeld2 => ?_)
          generalize D.alloc (Obj.cells #[.int .i64 0, .int .i64 0, .bool false] 44) = A at *
          generalize D.heap.size = sb at *
          clear hK K hHeld
          have hHeld := hHeld2
          clear hHeld2
          try simp only [Act.put, List.setIfInBounds_toArray, List.set_cons_zero, List.set_cons_succ, List.getElem_toArray, List.getElem_cons_succ, List.getElem_cons_zero]
          refine wpAnyH_ready (rs := [6]) (by kernel_rfl) (by simp) ?_
          refine AllReadyH.cons rfl (fun K hK => ?_) (AllReadyH.nil)
          go_simp
          with_reducible refine (HA.out _ hbA).mono ?_
          rintro e U ⟨rfl, hb2'⟩
          have hbU : Below wr.heap.size wr U := hbA.trans (hb2'.mono hbA.size)
          have rA := rA0.below hb2'
          refine hK.out _ _ (hS4.out _ hbU) (fun hHeld2 => ?_)
          clear hK K hHeld rA0
          have hHeld := hHeld2
          clear hHeld2
          try simp only [Act.put, List.setIfInBounds_toArray, List.set_cons_zero, List.set_cons_succ, List.getElem_toArray, List.getElem_cons_succ, List.getElem_cons_zero]
          refine wpAnyH_take (i := 7) (v := ?_) rfl (by kernel_rfl) (by kernel_rfl) (by kernel_rfl) (fun _ _ _ h => h) (Or.inl ⟨by rfl, ?_⟩) (by assumption) ?_
          rotate_left 1
          · (intro w hSw; (try dsimp only at hSw); go_simp; all_goals with_reducible rfl)
          try simp only [Act.put, List.setIfInBounds_toArray, List.set_cons_zero, List.set_cons_succ]
          refine wpAnyH_take (i := 8) (v := ?_) rfl (by kernel_rfl) (by kernel_rfl) (by kernel_rfl) (fun _ _ _ h => h) (Or.inl ⟨by rfl, ?_⟩) (by assumption) ?_
          rotate_left 1
          · (intro w hSw; (try dsimp only at hSw); go_simp; all_goals with_reducible rfl)
          try simp only [Act.put, List.setIfInBounds_toArray, List.set_cons_zero, List.set_cons_succ]
          refine wpAnyH_take (i := 9) (v := ?_) rfl (by kernel_rfl) (by kernel_rfl) (by kernel_rfl) (fun _ _ _ h => h) (Or.inl ⟨by rfl, ?_⟩) (by assumption) ?_
          rotate_left 1
          · (intro w hSw; (try dsimp only at hSw); go_simp; all_goals with_reducible rfl)
          try simp only [Act.put, List.setIfInBounds_toArray, List.set_cons_zero, List.set_cons_succ]
          have a0 : U.cell? ⟨sb, 0, none⟩ = some (.int .i64 0) := World.rowIs.cell rA (i := 0) (by omega)
          have a1 : U.cell? ⟨sb, 1, none⟩ = some (.int .i64 0) := World.rowIs.cell rA (i := 1) (by omega)
          have a2 : U.cell? ⟨sb, 2, none⟩ = some (.bool false) := World.rowIs.cell rA (i := 2) (by omega)
          have x0 := World.rowIs.frozen rA 0
          have x1 := World.rowIs.frozen rA 1
          have x2 := World.rowIs.frozen rA 2
          have rS : SP (((U.setCell ⟨sb, 0, none⟩ (.int .i64 p2)).setCell ⟨sb, 1, none⟩ (.int .i64 (t2 : Int))).setCell ⟨sb, 2, none⟩ (.bool m2)) sb ⟨p2, t2, m2⟩ := SP.set rA ⟨p2, t2, m2⟩
          have hbZ : Below wr.heap.size wr (((U.setCell ⟨sb, 0, none⟩ (.int .i64 p2)).setCell ⟨sb, 1, none⟩ (.int .i64 (t2 : Int))).setCell ⟨sb, 2, none⟩ (.bool m2)) := ((hbU.setCell (p := ⟨sb, 0, none⟩) hge _).setCell (p := ⟨sb, 1, none⟩) hge _).setCell (p := ⟨sb, 2, none⟩) hge _
          refine wpAnyH_ready (rs := [11]) (by kernel_rfl) (by simp) ?_
          refine AllReadyH.cons rfl (fun K hK => ?_) (AllReadyH.nil)
          go_simp
          refine hK.out _ _ (hS4.out _ hbZ) (fun hHeld2 => ?_)
          clear a0 a1 a2 x0 x1 x2 rA hbU
          generalize ((U.setCell ⟨sb, 0, none⟩ (.int .i64 p2)).setCell ⟨sb, 1, none⟩ (.int .i64 (t2 : Int))).setCell ⟨sb, 2, none⟩ (.bool m2) = Z at *
          clear hK K hHeld
          have hHeld := hHeld2
          clear hHeld2
          try simp only [Act.put, List.setIfInBounds_toArray, List.set_cons_zero, List.set_cons_succ, List.getElem_toArray, List.getElem_cons_succ, List.getElem_cons_zero]
          refine wpAnyH_take (i := 12) (v := ?_) rfl (by kernel_rfl) (by kernel_rfl) (by kernel_rfl) (fun _ _ _ h => h) (Or.inl ⟨by rfl, ?_⟩) (by assumption) ?_
          rotate_left 1
          · (intro w hSw; (try dsimp only at hSw); go_simp; all_goals with_reducible rfl)
          try simp only [Act.put, List.setIfInBounds_toArray, List.set_cons_zero, List.set_cons_succ]
          refine wpAnyH_done (by kernel_rfl) ?_ _
          try simp only [Act.put, List.setIfInBounds_toArray, List.set_cons_zero, List.set_cons_succ, List.getElem_toArray, List.getElem_cons_succ, List.getElem_cons_zero]
          clear hHeld
          have bZ : Below w.heap.size w Z := hb.trans (hbZ.mono hb.size)
          have rZ1 : SP Z (w.heap.size + 1) ⟨0, 0, false⟩ := r1.below hbZ
          go_upto_region 7 with fail
          have t0 : Z.cell? ⟨w.heap.size + 1, 0, none⟩ = some (.int .i64 0) := World.rowIs.cell rZ1 (i := 0) (by omega)
          have t1 : Z.cell? ⟨w.heap.size + 1, 1, none⟩ = some (.int .i64 0) := World.rowIs.cell rZ1 (i := 1) (by omega)
          have t2 : Z.cell? ⟨w.heap.size + 1, 2, none⟩ = some (.bool false) := World.rowIs.cell rZ1 (i := 2) (by omega)
          have z0 := World.rowIs.frozen rZ1 0
          have z1 := World.rowIs.frozen rZ1 1
          have z2 := World.rowIs.frozen rZ1 2
          have hS : SP (((Z.setCell ⟨w.heap.size + 1, 0, none⟩ (.int .i64 0)).setCell ⟨w.heap.size + 1, 1, none⟩ (.int .i64 0)).setCell ⟨w.heap.size + 1, 2, none⟩ (.bool false)) (w.heap.size + 1) ⟨0, 0, false⟩ := SP.set rZ1 ⟨0, 0, false⟩
          have hq0 : (((Z.setCell ⟨w.heap.size + 1, 0, none⟩ (.int .i64 0)).setCell ⟨w.heap.size + 1, 1, none⟩ (.int .i64 0)).setCell ⟨w.heap.size + 1, 2, none⟩ (.bool false)).cell? ⟨w.heap.size + 1, 0, none⟩ = some (.int .i64 0) := World.rowIs.cell hS (i := 0) (by omega)
          have hq1 : (((Z.setCell ⟨w.heap.size + 1, 0, none⟩ (.int .i64 0)).setCell ⟨w.heap.size + 1, 1, none⟩ (.int .i64 0)).setCell ⟨w.heap.size + 1, 2, none⟩ (.bool false)).cell? ⟨w.heap.size + 1, 1, none⟩ = some (.int .i64 0) := World.rowIs.cell hS (i := 1) (by omega)
          have hq2 : (((Z.setCell ⟨w.heap.size + 1, 0, none⟩ (.int .i64 0)).setCell ⟨w.heap.size + 1, 1, none⟩ (.int .i64 0)).setCell ⟨w.heap.size + 1, 2, none⟩ (.bool false)).cell? ⟨w.heap.size + 1, 2, none⟩ = some (.bool false) := World.rowIs.cell hS (i := 2) (by omega)
          have hZ : Below w.heap.size w (((Z.setCell ⟨w.heap.size + 1, 0, none⟩ (.int .i64 0)).setCell ⟨w.heap.size + 1, 1, none⟩ (.int .i64 0)).setCell ⟨w.heap.size + 1, 2, none⟩ (.bool false)) := ((bZ.setCell (p := ⟨w.heap.size + 1, 0, none⟩) (by show w.heap.size ≤ w.heap.size + 1; omega) _).setCell (p := ⟨w.heap.size + 1, 1, none⟩) (by show w.heap.size ≤ w.heap.size + 1; omega) _).setCell (p := ⟨w.heap.size + 1, 2, none⟩) (by show w.heap.size ≤ w.heap.size + 1; omega) _
          go_wp2
          generalize ((Z.setCell ⟨w.heap.size + 1, 0, none⟩ (.int .i64 0)).setCell ⟨w.heap.size + 1, 1, none⟩ (.int .i64 0)).setCell ⟨w.heap.size + 1, 2, none⟩ (.bool false) = V at *
          refine bodyPost_ret (v := .tuple #[.agg #[.int .i64 0, .int .i64 0, .bool false], .bool false]) (by simp [results, Tryd.results18, go_sem, hq0, hq1, hq2]) rfl ?_
          exact ⟨rfl, hZ⟩
      | true =>
        have ha : Pl.adv L ⟨pp, t, mm⟩ g = some ⟨p2, t2, m2⟩ := hadv
        have ht2 : t2 < 8 := (hai _ ha).2
        rw [ha] at hst
        have hst2 : Hid (rsV (Pl.runs (Pl.adv L) ⟨p2, t2, m2⟩ (l.drop (k + 1))) = R) := Lib.hid (by rw [hst.out]; rfl)
        clear hst hai ha hadv hY
        replace HA := Lib.hid HA
        have hS4 := Lib.hid (fun (W : World) (hb9 : Below wr.heap.size wr W) => (⟨kept1 k0 hb9, kept1 k1 hb9, kept1 k2 hb9, kept1 e0 hb9, kept1 e1 hb9, kept1 e2 hb9, kept1 hc0 hb9⟩ : W.cell? ⟨w.heap.size, 0, none⟩ = some (.int .i64 s) ∧ W.cell? ⟨w.heap.size, 1, none⟩ = some (.int .i64 m) ∧ W.cell? ⟨w.heap.size, 2, none⟩ = some (.slice a q cap) ∧ W.cell? ⟨w.heap.size + 1 + 1, 0, none⟩ = some (.int .i64 pp) ∧ W.cell? ⟨w.heap.size + 1 + 1, 1, none⟩ = some (.int .i64 (t : Int)) ∧ W.cell? ⟨w.heap.size + 1 + 1, 2, none⟩ = some (.bool mm) ∧ W.cell? (x'.add k) = some (.int .i64 g)))
        go_upto_region 5 with fail
        refine wp_region_held_drew (S := fun w' => w'.cell? ⟨w.heap.size, 0, none⟩ = some (.int .i64 s) ∧ w'.cell? ⟨w.heap.size, 1, none⟩ = some (.int .i64 m) ∧ w'.cell? ⟨w.heap.size, 2, none⟩ = some (.slice a q cap) ∧ w'.cell? ⟨w.heap.size + 1 + 1, 0, none⟩ = some (.int .i64 pp) ∧ w'.cell? ⟨w.heap.size + 1 + 1, 1, none⟩ = some (.int .i64 (t : Int)) ∧ w'.cell? ⟨w.heap.size + 1 + 1, 2, none⟩ = some (.bool mm) ∧ w'.cell? (x'.add k) = some (.int .i64 g)) (by kernel_rfl) (hS4.out _ (Below.refl wr.heap.size wr).drew) (fun hHeld => ?_)
        refine wpAnyH_take (i := 0) (v := ?_) rfl (by kernel_rfl) (by kernel_rfl) (by kernel_rfl) (fun _ _ _ h => h) (Or.inl ⟨by rfl, ?_⟩) (by assumption) ?_
        rotate_left 1
        · (intro w hSw; (try dsimp only at hSw); go_simp; all_goals with_reducible rfl)
        try simp only [Act.put, List.setIfInBounds_toArray, List.set_cons_zero, List.set_cons_succ]
        refine wpAnyH_take (i := 1) (v := ?_) rfl (by kernel_rfl) (by kernel_rfl) (by kernel_rfl) (fun _ _ _ h => h) (Or.inl ⟨by rfl, ?_⟩) (by assumption) ?_
        rotate_left 1
        · (intro w hSw; (try dsimp only at hSw); go_simp; all_goals with_reducible rfl)
        try simp only [Act.put, List.setIfInBounds_toArray, List.set_cons_zero, List.set_cons_succ]
        refine wpAnyH_take (i := 2) (v := ?_) rfl (by kernel_rfl) (by kernel_rfl) (by kernel_rfl) (fun _ _ _ h => h) (Or.inl ⟨by rfl, ?_⟩) (by assumption) ?_
        rotate_left 1
        · (intro w hSw; (try dsimp only at hSw); go_simp; all_goals with_reducible rfl)
        try simp only [Act.put, List.setIfInBounds_toArray, List.set_cons_zero, List.set_cons_succ]
        refine wpAnyH_take (i := 3) (v := ?_) rfl (by kernel_rfl) (by kernel_rfl) (by kernel_rfl) (fun _ _ _ h => h) (Or.inl ⟨by rfl, ?_⟩) (by assumption) ?_
        rotate_left 1
        · (intro w hSw; (try dsimp only at hSw); go_simp; all_goals with_reducible rfl)
        try simp only [Act.put, List.setIfInBounds_toArray, List.set_cons_zero, List.set_cons_succ]
        refine wpAnyH_take (i := 4) (v := ?_) rfl (by kernel_rfl) (by kernel_rfl) (by kernel_rfl) (fun _ _ _ h => h) (Or.inl ⟨by rfl, ?_⟩) (by assumption) ?_
        rotate_left 1
        · (intro w hSw; (try dsimp only at hSw); go_simp; all_goals with_reducible rfl)
        try simp only [Act.put, List.setIfInBounds_toArray, List.set_cons_zero, List.set_cons_succ]
        refine wpAnyH_take (i := 5) (v := ?_) rfl (by kernel_rfl) (by kernel_rfl) (by kernel_rfl) (fun _ _ _ h => h) (Or.inl ⟨by rfl, ?_⟩) (by assumption) ?_
        rotate_left 1
        · (intro w hSw; (try dsimp only at hSw); go_simp; all_goals with_reducible rfl)
        try simp only [Act.put, List.setIfInBounds_toArray, List.set_cons_zero, List.set_cons_succ]
        have hbD : Below wr.heap.size wr wr.drew := (Below.refl wr.heap.size wr).drew
        generalize wr.drew = D at *
        refine wpAnyH_ready (rs := [6, 10]) (by kernel_rfl) (by simp) ?_
        refine AllReadyH.cons rfl (fun K hK => ?_) (AllReadyH.cons rfl (fun K hK => ?_) (AllReadyH.nil))
        · go_simp
          with_reducible refine (HA.out _ hbD).mono ?_
          rintro e w2 ⟨rfl, hb2'⟩
          have hb2 : Below wr.heap.size wr w2 := hbD.trans (hb2'.mono hbD.size)
          refine hK.out _ _ (hS4.out _ hb2) (fun hHeld2 => ?_)
          clear hK K hHeld
          have hHeld := hHeld2
          clear hHeld2
          try simp only [Act.put, List.setIfInBounds_toArray, List.set_cons_zero, List.set_cons_succ, List.getElem_toArray, List.getElem_cons_succ, List.getElem_cons_zero]
          refine wpAnyH_take (i := 7) (v := ?_) rfl (by kernel_rfl) (by kernel_rfl) (by kernel_rfl) (fun _ _ _ h => h) (Or.inl ⟨by rfl, ?_⟩) (by assumption) ?_
          rotate_left 1
          · (intro w hSw; (try dsimp only at hSw); go_simp; all_goals with_reducible rfl)
          try simp only [Act.put, List.setIfInBounds_toArray, List.set_cons_zero, List.set_cons_succ]
          refine wpAnyH_take (i := 8) (v := ?_) rfl (by kernel_rfl) (by kernel_rfl) (by kernel_rfl) (fun _ _ _ h => h) (Or.inl ⟨by rfl, ?_⟩) (by assumption) ?_
          rotate_left 1
          · (intro w hSw; (try dsimp only at hSw); go_simp; all_goals with_reducible rfl)
          try simp only [Act.put, List.setIfInBounds_toArray, List.set_cons_zero, List.set_cons_succ]
          refine wpAnyH_take (i := 9) (v := ?_) rfl (by kernel_rfl) (by kernel_rfl) (by kernel_rfl) (fun _ _ _ h => h) (Or.inl ⟨by rfl, ?_⟩) (by assumption) ?_
          rotate_left 1
          · (intro w hSw; (try dsimp only at hSw); go_simp; all_goals with_reducible rfl)
          try simp only [Act.put, List.setIfInBounds_toArray, List.set_cons_zero, List.set_cons_succ]
          refine wpAnyH_ready (rs := [10]) (by kernel_rfl) (by simp) ?_
          refine AllReadyH.cons rfl (fun K hK => ?_) (AllReadyH.nil)
          have rA := sp_new w2 ⟨0, 0, false⟩
          have hbU : Below wr.heap.size wr (w2.alloc (Obj.cells #[.int .i64 0, .int .i64 0, .bool false] 44)) := below_alloc hb2 _
          have hge : wr.heap.size ≤ w2.heap.size := hb2.size
          go_simp
          refine hK.out _ _ (hS4.out _ hbU) (fun hHeld2 => ?_)
          generalize w2.alloc (Obj.cells #[.int .i64 0, .int .i64 0, .bool false] 44) = U at *
          generalize w2.heap.size = sb at *
          clear hK K hHeld
          have hHeld := hHeld2
          clear hHeld2
          try simp only [Act.put, List.setIfInBounds_toArray, List.set_cons_zero, List.set_cons_succ, List.getElem_toArray, List.getElem_cons_succ, List.getElem_cons_zero]
          have a0 : U.cell? ⟨sb, 0, none⟩ = some (.int .i64 0) := World.rowIs.cell rA (i := 0) (by omega)
          have a1 : U.cell? ⟨sb, 1, none⟩ = some (.int .i64 0) := World.rowIs.cell rA (i := 1) (by omega)
          have a2 : U.cell? ⟨sb, 2, none⟩ = some (.bool false) := World.rowIs.cell rA (i := 2) (by omega)
          have x0 := World.rowIs.frozen rA 0
          have x1 := World.rowIs.frozen rA 1
          have x2 := World.rowIs.frozen rA 2
          have rS : SP (((U.setCell ⟨sb, 0, none⟩ (.int .i64 p2)).setCell ⟨sb, 1, none⟩ (.int .i64 (t2 : Int))).setCell ⟨sb, 2, none⟩ (.bool m2)) sb ⟨p2, t2, m2⟩ := SP.set rA ⟨p2, t2, m2⟩
          have hbZ : Below wr.heap.size wr (((U.setCell ⟨sb, 0, none⟩ (.int .i64 p2)).setCell ⟨sb, 1, none⟩ (.int .i64 (t2 : Int))).setCell ⟨sb, 2, none⟩ (.bool m2)) := ((hbU.setCell (p := ⟨sb, 0, none⟩) hge _).setCell (p := ⟨sb, 1, none⟩) hge _).setCell (p := ⟨sb, 2, none⟩) hge _
          refine wpAnyH_ready (rs := [11]) (by kernel_rfl) (by simp) ?_
          refine AllReadyH.cons rfl (fun K hK => ?_) (AllReadyH.nil)
          go_simp
          refine hK.out _ _ (hS4.out _ hbZ) (fun hHeld2 => ?_)
          clear a0 a1 a2 x0 x1 x2 rA hbU
          generalize ((U.setCell ⟨sb, 0, none⟩ (.int .i64 p2)).setCell ⟨sb, 1, none⟩ (.int .i64 (t2 : Int))).setCell ⟨sb, 2, none⟩ (.bool m2) = Z at *
          clear hK K hHeld
          have hHeld := hHeld2
          clear hHeld2
          try simp only [Act.put, List.setIfInBounds_toArray, List.set_cons_zero, List.set_cons_succ, List.getElem_toArray, List.getElem_cons_succ, List.getElem_cons_zero]
          refine wpAnyH_take (i := 12) (v := ?_) rfl (by kernel_rfl) (by kernel_rfl) (by kernel_rfl) (fun _ _ _ h => h) (Or.inl ⟨by rfl, ?_⟩) (by assumption) ?_
          rotate_left 1
          · (intro w hSw; (try dsimp only at hSw); go_simp; all_goals with_reducible rfl)
          try simp only [Act.put, List.setIfInBounds_toArray, List.set_cons_zero, List.set_cons_succ]
          refine wpAnyH_done (by kernel_rfl) ?_ _
          try simp only [Act.put, List.setIfInBounds_toArray, List.set_cons_zero, List.set_cons_succ, List.getElem_toArray, List.getElem_cons_succ, List.getElem_cons_zero]
          clear hHeld
          have bZ : Below w.heap.size w Z := hb.trans (hbZ.mono hb.size)
          go_upto_region 8 with fail
          replace k0 := kept1 k0 hbZ
          replace k1 := kept1 k1 hbZ
          replace k2 := kept1 k2 hbZ
          replace r1 := r1.below hbZ
          replace r2 := r2.below hbZ
          clear e0 e1 e2
          have s0 : Z.cell? ⟨sb, 0, none⟩ = some (.int .i64 p2) := World.rowIs.cell rS (i := 0) (by omega)
          have s1 : Z.cell? ⟨sb, 1, none⟩ = some (.int .i64 (t2 : Int)) := World.rowIs.cell rS (i := 1) (by omega)
          have s2 : Z.cell? ⟨sb, 2, none⟩ = some (.bool m2) := World.rowIs.cell rS (i := 2) (by omega)
          have t0 : Z.cell? ⟨w.heap.size + 1 + 1, 0, none⟩ = some (.int .i64 pp) := World.rowIs.cell r2 (i := 0) (by omega)
          have t1 : Z.cell? ⟨w.heap.size + 1 + 1, 1, none⟩ = some (.int .i64 (t : Int)) := World.rowIs.cell r2 (i := 1) (by omega)
          have t2' : Z.cell? ⟨w.heap.size + 1 + 1, 2, none⟩ = some (.bool mm) := World.rowIs.cell r2 (i := 2) (by omega)
          have z0 := World.rowIs.frozen r2 0
          have z1 := World.rowIs.frozen r2 1
          have z2 := World.rowIs.frozen r2 2
          have hS : SP (((Z.setCell ⟨w.heap.size + 1 + 1, 0, none⟩ (.int .i64 p2)).setCell ⟨w.heap.size + 1 + 1, 1, none⟩ (.int .i64 (t2 : Int))).setCell ⟨w.heap.size + 1 + 1, 2, none⟩ (.bool m2)) (w.heap.size + 1 + 1) ⟨p2, t2, m2⟩ := SP.set r2 ⟨p2, t2, m2⟩
          have hS1 : SP (((Z.setCell ⟨w.heap.size + 1 + 1, 0, none⟩ (.int .i64 p2)).setCell ⟨w.heap.size + 1 + 1, 1, none⟩ (.int .i64 (t2 : Int))).setCell ⟨w.heap.size + 1 + 1, 2, none⟩ (.bool m2)) (w.heap.size + 1) ⟨0, 0, false⟩ := far3s r1 (by omega)
          have hk0 : (((Z.setCell ⟨w.heap.size + 1 + 1, 0, none⟩ (.int .i64 p2)).setCell ⟨w.heap.size + 1 + 1, 1, none⟩ (.int .i64 (t2 : Int))).setCell ⟨w.heap.size + 1 + 1, 2, none⟩ (.bool m2)).cell? ⟨w.heap.size, 0, none⟩ = some (.int .i64 s) := far3c k0 (by omega)
          have hk1 : (((Z.setCell ⟨w.heap.size + 1 + 1, 0, none⟩ (.int .i64 p2)).setCell ⟨w.heap.size + 1 + 1, 1, none⟩ (.int .i64 (t2 : Int))).setCell ⟨w.heap.size + 1 + 1, 2, none⟩ (.bool m2)).cell? ⟨w.heap.size, 1, none⟩ = some (.int .i64 m) := far3c k1 (by omega)
          have hk2 : (((Z.setCell ⟨w.heap.size + 1 + 1, 0, none⟩ (.int .i64 p2)).setCell ⟨w.heap.size + 1 + 1, 1, none⟩ (.int .i64 (t2 : Int))).setCell ⟨w.heap.size + 1 + 1, 2, none⟩ (.bool m2)).cell? ⟨w.heap.size, 2, none⟩ = some (.slice a q cap) := far3c k2 (by omega)
          have hZ : Below w.heap.size w (((Z.setCell ⟨w.heap.size + 1 + 1, 0, none⟩ (.int .i64 p2)).setCell ⟨w.heap.size + 1 + 1, 1, none⟩ (.int .i64 (t2 : Int))).setCell ⟨w.heap.size + 1 + 1, 2, none⟩ (.bool m2)) := ((bZ.setCell (p := ⟨w.heap.size + 1 + 1, 0, none⟩) (by show w.heap.size ≤ w.heap.size + 1 + 1; omega) _).setCell (p := ⟨w.heap.size + 1 + 1, 1, none⟩) (by show w.heap.size ≤ w.heap.size + 1 + 1; omega) _).setCell (p := ⟨w.heap.size + 1 + 1, 2, none⟩) (by show w.heap.size ≤ w.heap.size + 1 + 1; omega) _
          go_wp2
          go_roundw
          case rel => exact ⟨k + 1, p2, t2, m2, by omega, by go_num, ht2, hk0, hk1, hk2, hS1, hS, hZ, hst2⟩
          case measure => first | (simp [RowKit.intOf]; done) | (simp [RowKit.intOf]; omega) | omega
        · have rA0 := sp_new D ⟨0, 0, false⟩
          have hbA : Below wr.heap.size wr (D.alloc (Obj.cells #[.int .i64 0, .int .i64 0, .bool false] 44)) := below_alloc hbD _
          have hge : wr.heap.size ≤ D.heap.size := hbD.size
          go_simp
          refine hK.out _ _ (hS4.out _ hbA) (fun hHeld2 => ?_)
          generalize D.alloc (Obj.cells #[.int .i64 0, .int .i64 0, .bool false] 44) = A at *
          generalize D.heap.size = sb at *
          clear hK K hHeld
          have hHeld := hHeld2
          clear hHeld2
          try simp only [Act.put, List.setIfInBounds_toArray, List.set_cons_zero, List.set_cons_succ, List.getElem_toArray, List.getElem_cons_succ, List.getElem_cons_zero]
          refine wpAnyH_ready (rs := [6]) (by kernel_rfl) (by simp) ?_
          refine AllReadyH.cons rfl (fun K hK => ?_) (AllReadyH.nil)
          go_simp
          with_reducible refine (HA.out _ hbA).mono ?_
          rintro e U ⟨rfl, hb2'⟩
          have hbU : Below wr.heap.size wr U := hbA.trans (hb2'.mono hbA.size)
          have rA := rA0.below hb2'
          refine hK.out _ _ (hS4.out _ hbU) (fun hHeld2 => ?_)
          clear hK K hHeld rA0
          have hHeld := hHeld2
          clear hHeld2
          try simp only [Act.put, List.setIfInBounds_toArray, List.set_cons_zero, List.set_cons_succ, List.getElem_toArray, List.getElem_cons_succ, List.getElem_cons_zero]
          refine wpAnyH_take (i := 7) (v := ?_) rfl (by kernel_rfl) (by kernel_rfl) (by kernel_rfl) (fun _ _ _ h => h) (Or.inl ⟨by rfl, ?_⟩) (by assumption) ?_
          rotate_left 1
          · (intro w hSw; (try dsimp only at hSw); go_simp; all_goals with_reducible rfl)
          try simp only [Act.put, List.setIfInBounds_toArray, List.set_cons_zero, List.set_cons_succ]
          refine wpAnyH_take (i := 8) (v := ?_) rfl (by kernel_rfl) (by kernel_rfl) (by kernel_rfl) (fun _ _ _ h => h) (Or.inl ⟨by rfl, ?_⟩) (by assumption) ?_
          rotate_left 1
          · (intro w hSw; (try dsimp only at hSw); go_simp; all_goals with_reducible rfl)
          try simp only [Act.put, List.setIfInBounds_toArray, List.set_cons_zero, List.set_cons_succ]
          refine wpAnyH_take (i := 9) (v := ?_) rfl (by kernel_rfl) (by kernel_rfl) (by kernel_rfl) (fun _ _ _ h => h) (Or.inl ⟨by rfl, ?_⟩) (by assumption) ?_
          rotate_left 1
          · (intro w hSw; (try dsimp only at hSw); go_simp; all_goals with_reducible rfl)
          try simp only [Act.put, List.setIfInBounds_toArray, List.set_cons_zero, List.set_cons_succ]
          have a0 : U.cell? ⟨sb, 0, none⟩ = some (.int .i64 0) := World.rowIs.cell rA (i := 0) (by omega)
          have a1 : U.cell? ⟨sb, 1, none⟩ = some (.int .i64 0) := World.rowIs.cell rA (i := 1) (by omega)
          have a2 : U.cell? ⟨sb, 2, none⟩ = some (.bool false) := World.rowIs.cell rA (i := 2) (by omega)
          have x0 := World.rowIs.frozen rA 0
          have x1 := World.rowIs.frozen rA 1
          have x2 := World.rowIs.frozen rA 2
          have rS : SP (((U.setCell ⟨sb, 0, none⟩ (.int .i64 p2)).setCell ⟨sb, 1, none⟩ (.int .i64 (t2 : Int))).setCell ⟨sb, 2, none⟩ (.bool m2)) sb ⟨p2, t2, m2⟩ := SP.set rA ⟨p2, t2, m2⟩
          have hbZ : Below wr.heap.size wr (((U.setCell ⟨sb, 0, none⟩ (.int .i64 p2)).setCell ⟨sb, 1, none⟩ (.int .i64 (t2 : Int))).setCell ⟨sb, 2, none⟩ (.bool m2)) := ((hbU.setCell (p := ⟨sb, 0, none⟩) hge _).setCell (p := ⟨sb, 1, none⟩) hge _).setCell (p := ⟨sb, 2, none⟩) hge _
          refine wpAnyH_ready (rs := [11]) (by kernel_rfl) (by simp) ?_
          refine AllReadyH.cons rfl (fun K hK => ?_) (AllReadyH.nil)
          go_simp
          refine hK.out _ _ (hS4.out _ hbZ) (fun hHeld2 => ?_)
          clear a0 a1 a2 x0 x1 x2 rA hbU
          generalize ((U.setCell ⟨sb, 0, none⟩ (.int .i64 p2)).setCell ⟨sb, 1, none⟩ (.int .i64 (t2 : Int))).setCell ⟨sb, 2, none⟩ (.bool m2) = Z at *
          clear hK K hHeld
          have hHeld := hHeld2
          clear hHeld2
          try simp only [Act.put, List.setIfInBounds_toArray, List.set_cons_zero, List.set_cons_succ, List.getElem_toArray, List.getElem_cons_succ, List.getElem_cons_zero]
          refine wpAnyH_take (i := 12) (v := ?_) rfl (by kernel_rfl) (by kernel_rfl) (by kernel_rfl) (fun _ _ _ h => h) (Or.inl ⟨by rfl, ?_⟩) (by assumption) ?_
          rotate_left 1
          · (intro w hSw; (try dsimp only at hSw); go_simp; all_goals with_reducible rfl)
          try simp only [Act.put, List.setIfInBounds_toArray, List.set_cons_zero, List.set_cons_succ]
          refine wpAnyH_done (by kernel_rfl) ?_ _
          try simp only [Act.put, List.setIfInBounds_toArray, List.set_cons_zero, List.set_cons_succ, List.getElem_toArray, List.getElem_cons_succ, List.getElem_cons_zero]
          clear hHeld
          have bZ : Below w.heap.size w Z := hb.trans (hbZ.mono hb.size)
          go_upto_region 8 with fail
          replace k0 := kept1 k0 hbZ
          replace k1 := kept1 k1 hbZ
          replace k2 := kept1 k2 hbZ
          replace r1 := r1.below hbZ
          replace r2 := r2.below hbZ
          clear e0 e1 e2
          have s0 : Z.cell? ⟨sb, 0, none⟩ = some (.int .i64 p2) := World.rowIs.cell rS (i := 0) (by omega)
          have s1 : Z.cell? ⟨sb, 1, none⟩ = some (.int .i64 (t2 : Int)) := World.rowIs.cell rS (i := 1) (by omega)
          have s2 : Z.cell? ⟨sb, 2, none⟩ = some (.bool m2) := World.rowIs.cell rS (i := 2) (by omega)
          have t0 : Z.cell? ⟨w.heap.size + 1 + 1, 0, none⟩ = some (.int .i64 pp) := World.rowIs.cell r2 (i := 0) (by omega)
          have t1 : Z.cell? ⟨w.heap.size + 1 + 1, 1, none⟩ = some (.int .i64 (t : Int)) := World.rowIs.cell r2 (i := 1) (by omega)
          have t2' : Z.cell? ⟨w.heap.size + 1 + 1, 2, none⟩ = some (.bool mm) := World.rowIs.cell r2 (i := 2) (by omega)
          have z0 := World.rowIs.frozen r2 0
          have z1 := World.rowIs.frozen r2 1
          have z2 := World.rowIs.frozen r2 2
          have hS : SP (((Z.setCell ⟨w.heap.size + 1 + 1, 0, none⟩ (.int .i64 p2)).setCell ⟨w.heap.size + 1 + 1, 1, none⟩ (.int .i64 (t2 : Int))).setCell ⟨w.heap.size + 1 + 1, 2, none⟩ (.bool m2)) (w.heap.size + 1 + 1) ⟨p2, t2, m2⟩ := SP.set r2 ⟨p2, t2, m2⟩
          have hS1 : SP (((Z.setCell ⟨w.heap.size + 1 + 1, 0, none⟩ (.int .i64 p2)).setCell ⟨w.heap.size + 1 + 1, 1, none⟩ (.int .i64 (t2 : Int))).setCell ⟨w.heap.size + 1 + 1, 2, none⟩ (.bool m2)) (w.heap.size + 1) ⟨0, 0, false⟩ := far3s r1 (by omega)
          have hk0 : (((Z.setCell ⟨w.heap.size + 1 + 1, 0, none⟩ (.int .i64 p2)).setCell ⟨w.heap.size + 1 + 1, 1, none⟩ (.int .i64 (t2 : Int))).setCell ⟨w.heap.size + 1 + 1, 2, none⟩ (.bool m2)).cell? ⟨w.heap.size, 0, none⟩ = some (.int .i64 s) := far3c k0 (by omega)
          have hk1 : (((Z.setCell ⟨w.heap.size + 1 + 1, 0, none⟩ (.int .i64 p2)).setCell ⟨w.heap.size + 1 + 1, 1, none⟩ (.int .i64 (t2 : Int))).setCell ⟨w.heap.size + 1 + 1, 2, none⟩ (.bool m2)).cell? ⟨w.heap.size, 1, none⟩ = some (.int .i64 m) := far3c k1 (by omega)
          have hk2 : (((Z.setCell ⟨w.heap.size + 1 + 1, 0, none⟩ (.int .i64 p2)).setCell ⟨w.heap.size + 1 + 1, 1, none⟩ (.int .i64 (t2 : Int))).setCell ⟨w.heap.size + 1 + 1, 2, none⟩ (.bool m2)).cell? ⟨w.heap.size, 2, none⟩ = some (.slice a q cap) := far3c k2 (by omega)
          have hZ : Below w.heap.size w (((Z.setCell ⟨w.heap.size + 1 + 1, 0, none⟩ (.int .i64 p2)).setCell ⟨w.heap.size + 1 + 1, 1, none⟩ (.int .i64 (t2 : Int))).setCell ⟨w.heap.size + 1 + 1, 2, none⟩ (.bool m2)) := ((bZ.setCell (p := ⟨w.heap.size + 1 + 1, 0, none⟩) (by show w.heap.size ≤ w.heap.size + 1 + 1; omega) _).setCell (p := ⟨w.heap.size + 1 + 1, 1, none⟩) (by show w.heap.size ≤ w.heap.size + 1 + 1; omega) _).setCell (p := ⟨w.heap.size + 1 + 1, 2, none⟩) (by show w.heap.size ≤ w.heap.size + 1 + 1; omega) _
          go_wp2
          go_roundw
          case rel => exact ⟨k + 1, p2, t2, m2, by omega, by go_num, ht2, hk0, hk1, hk2, hS1, hS, hZ, hst2⟩
          case measure => first | (simp [RowKit.intOf]; done) | (simp [RowKit.intOf]; omega) | omega
    · obtain rfl : k = n := by omega
      have hi5 : ¬ (k : Int) < (k : Int) := by omega
      have hst2 : R = #[.agg #[.int .i64 pp, .int .i64 (t : Int), .bool mm], .bool true] := by rw [← hfo.out, List.drop_eq_nil_of_le (by have := hn.out; omega)]; rfl
      subst hst2
      clear hfo
      have t0 : wr.cell? ⟨w.heap.size + 1, 0, none⟩ = some (.int .i64 0) := World.rowIs.cell r1 (i := 0) (by omega)
      have t1 : wr.cell? ⟨w.heap.size + 1, 1, none⟩ = some (.int .i64 0) := World.rowIs.cell r1 (i := 1) (by omega)
      have t2 : wr.cell? ⟨w.heap.size + 1, 2, none⟩ = some (.bool false) := World.rowIs.cell r1 (i := 2) (by omega)
      have z0 := World.rowIs.frozen r1 0
      have z1 := World.rowIs.frozen r1 1
      have z2 := World.rowIs.frozen r1 2
      have hS : SP (((wr.setCell ⟨w.heap.size + 1, 0, none⟩ (.int .i64 pp)).setCell ⟨w.heap.size + 1, 1, none⟩ (.int .i64 (t : Int))).setCell ⟨w.heap.size + 1, 2, none⟩ (.bool mm)) (w.heap.size + 1) ⟨pp, t, mm⟩ := SP.set r1 ⟨pp, t, mm⟩
      have hq0 : (((wr.setCell ⟨w.heap.size + 1, 0, none⟩ (.int .i64 pp)).setCell ⟨w.heap.size + 1, 1, none⟩ (.int .i64 (t : Int))).setCell ⟨w.heap.size + 1, 2, none⟩ (.bool mm)).cell? ⟨w.heap.size + 1, 0, none⟩ = some (.int .i64 pp) := World.rowIs.cell hS (i := 0) (by omega)
      have hq1 : (((wr.setCell ⟨w.heap.size + 1, 0, none⟩ (.int .i64 pp)).setCell ⟨w.heap.size + 1, 1, none⟩ (.int .i64 (t : Int))).setCell ⟨w.heap.size + 1, 2, none⟩ (.bool mm)).cell? ⟨w.heap.size + 1, 1, none⟩ = some (.int .i64 (t : Int)) := World.rowIs.cell hS (i := 1) (by omega)
      have hq2 : (((wr.setCell ⟨w.heap.size + 1, 0, none⟩ (.int .i64 pp)).setCell ⟨w.heap.size + 1, 1, none⟩ (.int .i64 (t : Int))).setCell ⟨w.heap.size + 1, 2, none⟩ (.bool mm)).cell? ⟨w.heap.size + 1, 2, none⟩ = some (.bool mm) := World.rowIs.cell hS (i := 2) (by omega)
      have hZ : Below w.heap.size w (((wr.setCell ⟨w.heap.size + 1, 0, none⟩ (.int .i64 pp)).setCell ⟨w.heap.size + 1, 1, none⟩ (.int .i64 (t : Int))).setCell ⟨w.heap.size + 1, 2, none⟩ (.bool mm)) := ((hb.setCell (p := ⟨w.heap.size + 1, 0, none⟩) (by show w.heap.size ≤ w.heap.size + 1; omega) _).setCell (p := ⟨w.heap.size + 1, 1, none⟩) (by show w.heap.size ≤ w.heap.size + 1; omega) _).setCell (p := ⟨w.heap.size + 1, 2, none⟩) (by show w.heap.size ≤ w.heap.size + 1; omega) _
      go_wp2
      generalize ((wr.setCell ⟨w.heap.size + 1, 0, none⟩ (.int .i64 pp)).setCell ⟨w.heap.size + 1, 1, none⟩ (.int .i64 (t : Int))).setCell ⟨w.heap.size + 1, 2, none⟩ (.bool mm) = V at *
      refine bodyPost_ret (v := .tuple #[.agg #[.int .i64 pp, .int .i64 (t : Int), .bool mm], .bool true]) (by simp [results, Tryd.results18, go_sem, hq0, hq1, hq2]) rfl ?_
      exact ⟨rfl, hZ⟩
end Go.Proofs.YtmkjmpkicmadcaaDoor
