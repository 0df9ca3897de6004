/- Contracts of the specification of layer 3: Ways. Written by genWy.py. -/
import Derived.Test.YtidcedilfhmllaaDoorZJzzg
import Derived.Test.YtidcedilfhmllaaDoorZ12
import Derived.Test.YtidcedilfhmllaaDoorZ19
import Derived.Test.YtidcedilfhmllaaDoorZ26
set_option linter.unusedSimpArgs false
set_option linter.unusedVariables false
namespace Pl
/-- walks are short, also before the search ends -/
theorem walk_len {L : List Wk} {acc : List (St × List Int)} (h : Par (adv L) acc) {e : St × List Int} (he : e ∈ acc) : e.2.length + 1 ≤ acc.length := by
  have h := nodup_le (U := acc.map fun e => e.2.length) (l := List.range (e.2.length + 1)) List.nodup_range (fun j hj => by
    obtain ⟨e', h1, h2⟩ := Go.Proofs.YtidcedilfhmllaaDoor.lens_all h _ e he rfl j (by have := List.mem_range.1 hj; omega)
    exact List.mem_map.2 ⟨e', h1, h2⟩)
  simpa using h
end Pl
namespace Go.Proofs.YtidcedilfhmllaaDoor
open Go.RowKit
set_option linter.unusedVariables false
set_option linter.unusedSimpArgs false

theorem WyL.first (X : World) (p : Int) : WyL X (X.alloc (Obj.cells #[.int .i64 p, .int .i64 0, .bool false, .slice none 0 0] 102)) (.slice (some ⟨X.heap.size, 0, none⟩) 1 1) [(Pl.start p, [])] [(Pl.start p, .slice none 0 0)] :=
  ⟨⟨rfl, .inr ⟨X.heap.size, 1, #[.int .i64 p, .int .i64 0, .bool false, .slice none 0 0], rfl, Nat.le_refl _, World.alloc_heap_new X _, Nat.le_refl _, by unfold maxLen; omega, rfl, rfl⟩⟩, rfl, fun i e hi => by
    match i, hi with
    | 0, hi =>
      simp at hi
      subst hi
      exact ⟨none, 0, rfl, fun k hk => by simp at hk, fun _ => rfl, fun y e => by cases e⟩
    | i + 1, hi => simp at hi, below_alloc (Below.refl _ _) _⟩
/-- what Ways leaves -/
def WyPost (w : World) (L : List Pl.Wk) (p : Int) (e : Ending) (w' : World) : Prop :=
  ∃ a n c, e = .returned (.slice a n c) ∧ Hid (n = (Pl.ways L p).length) ∧ Hid (WaysAt w' a (Pl.ways L p)) ∧ Below w.heap.size w w'
theorem ns_one {W : World} {g : Nat} {z : Int} (h : W.cell? ⟨g, 0, none⟩ = some (.int .i64 z)) : NsAt W (some ⟨g, 0, none⟩) [z] := fun k hk => by
  obtain rfl : k = 0 := by simpa using hk
  exact ⟨_, rfl, h⟩
theorem infoWy : (Tryd.prog.info? 102).map (fun i => (i.zero, i.size, i.bytes)) = some (some (.agg #[.int .i64 0, .int .i64 0, .bool false, .slice none 0 0]), 4, 48) := by kernel_rfl
theorem sp_new0 (X : World) : SP (X.alloc (Obj.cells #[.int .i64 0, .int .i64 0, .bool false] 100)) X.heap.size ⟨0, 0, false⟩ := sp_new X ⟨0, 0, false⟩
/-- whether a spot is none of some ways' -/
def nwB (z : Pl.St) (b : Bool) (acc : List (Pl.St × List Int)) : Bool := b && acc.all fun e => decide (e.1 ≠ z)
theorem nwB_step {z : Pl.St} {b : Bool} {acc : List (Pl.St × List Int)} {k : Nat} {e : Pl.St × List Int} (h : acc[k]? = some e) : nwB z b (acc.take (k + 1)) = (nwB z b (acc.take k) && decide (e.1 ≠ z)) := by
  have h1 := (List.getElem?_eq_some_iff.1 h)
  obtain ⟨hk, he⟩ := h1
  unfold nwB
  rw [List.take_succ_eq_append_getElem hk, List.all_append, he]
  simp [Bool.and_assoc]
theorem nwB_true {z : Pl.St} {b : Bool} {acc : List (Pl.St × List Int)} : nwB z b acc = true ↔ b = true ∧ z ∉ acc.map Prod.fst := by
  unfold nwB
  rw [Bool.and_eq_true, List.all_eq_true, List.mem_map]
  refine and_congr Iff.rfl ⟨fun h ⟨e, he, h2⟩ => of_decide_eq_true (h e he) h2, fun h e he => decide_eq_true (fun h2 => h ⟨e, he, h2⟩)⟩

set_option maxRecDepth 100000 in
set_option maxHeartbeats 16000000 in
theorem rWays_any (s m : Int) (hm1 : m ≤ 6) (a : Option Addr) (q cap : Nat) (L : List Pl.Wk) (hq : L.length = q) (hq2 : q ≤ 16) (hok : Hid (Pl.Ok m L)) (p : Int) (hp : 0 ≤ p ∧ p < m) (w : World) (hL : Hid (WksAt w a L)) :
    Calls Tryd.prog 55 #[.agg #[.int .i64 s, .int .i64 m, .slice a q cap], .int .i64 p] w (WyPost w L p) := by
  obtain ⟨i0, hi, hz0, hz1, hz2⟩ := info_parts infoWy
  obtain ⟨j0, hj0, hjz0, hjz1, hjz2⟩ := info_parts infoI64
  go_enter Tryd.func55, Tryd.ntmps55
  go_upto_region 1 with fail
  have b0 : (w.alloc (Obj.cells #[.int .i64 s, .int .i64 m, .slice a q cap] 34)).cell? ⟨w.heap.size, 0, none⟩ = some (.int .i64 s) := by simp [go_sem]
  have b1 : (w.alloc (Obj.cells #[.int .i64 s, .int .i64 m, .slice a q cap] 34)).cell? ⟨w.heap.size, 1, none⟩ = some (.int .i64 m) := by simp [go_sem]
  have b2 : (w.alloc (Obj.cells #[.int .i64 s, .int .i64 m, .slice a q cap] 34)).cell? ⟨w.heap.size, 2, none⟩ = some (.slice a q cap) := by simp [go_sem]
  have hX : Below w.heap.size w (w.alloc (Obj.cells #[.int .i64 s, .int .i64 m, .slice a q cap] 34)) := below_alloc (Below.refl _ _) _
  generalize (w.alloc (Obj.cells #[.int .i64 s, .int .i64 m, .slice a q cap] 34)) = X at *
  have kk0 := Lib.hid (fun (W : World) (hb' : Below X.heap.size X W) => kept1 b0 hb')
  have kk1 := Lib.hid (fun (W : World) (hb' : Below X.heap.size X W) => kept1 b1 hb')
  have kk2 := Lib.hid (fun (W : World) (hb' : Below X.heap.size X W) => kept1 b2 hb')
  go_upto_region 2 with fail
  have hW0 := Lib.hid (WyL.first X p)
  generalize X.alloc (Obj.cells #[.int .i64 p, .int .i64 0, .bool false, .slice none 0 0] 102) = Y at *
  clear b0 b1 b2
  go_wp2
  go_loopw [6, 5] (fun iv v wr => ∃ (k : Nat) (acc : List (Pl.St × List Int)) (Z : List (Pl.St × Value)), k ≤ acc.length ∧ iv = .int .i64 (k : Int) ∧ Hid (WyL X wr v acc Z) ∧ Hid (Pl.Bf (Pl.adv L) (Pl.stps L.length) (Pl.start p) k acc) ∧ Hid (Pl.bfs (Pl.adv L) (Pl.stps L.length) (97 - k) k acc = Pl.ways L p) ∧ Hid (Pl.Par (Pl.adv L) acc)) (fun iv _ _ => 97 - (RowKit.intOf iv).toNat)
  case atStart => exact ⟨0, [(Pl.start p, [])], _, by simp, rfl, hW0, Lib.hid (Pl.bf_start _ _ _), Lib.hid rfl, Lib.hid (Pl.par_start _ _)⟩
  case round =>
    clear hW0 Y
    obtain ⟨k, acc, Z, hk, rfl, hW, hF, hR, hPr⟩ := hrel
    have hlen := Pl.bf_len hm1 hok.out hp hF.out
    obtain ⟨a', cp, rfl, hWy⟩ := hW.out.at_
    replace hWy := Lib.hid hWy
    by_cases hlt : k < acc.length
    · have hi5 : (k : Int) < (acc.length : Int) := by omega
      have hi6 : (0 : Int) ≤ (k : Int) := by omega
      obtain ⟨⟨⟨p', t', m'⟩, v'⟩, hx⟩ : ∃ x, acc[k]? = some x := ⟨_, List.getElem?_eq_getElem hlt⟩
      have hin := Pl.bf_in hok.out hp hF.out (List.mem_of_getElem? hx)
      simp only at hin
      have ht : t' < 8 := hin.2
      replace hin := Lib.hid hin
      replace hx := Lib.hid hx
      have z2 := kk2.out _ hW.out.b
      have hw1 : IntKind.i64.wrap (-(q : Int)) = -(q : Int) := by rw [IntWalk.i64_left]; exact IntWalk.wrap64_in _ (by omega)
      clear hWy
      go_wp2
      go_loopw [7, 5] (fun st v W => ∃ (j : Nat) (Z : List (Pl.St × Value)), j ≤ 2 * q ∧ st = .int .i64 ((j : Int) - (q : Int)) ∧ Hid (WyL X W v (Pl.inn L (⟨p', t', m'⟩, v') acc j) Z)) (fun st _ _ => ((q : Int) - RowKit.intOf st).toNat)
      case atStart => exact ⟨0, Z, Nat.zero_le _, by go_num, hW⟩
      case round =>
        clear hW z2 Z
        obtain ⟨j, Z, hj, rfl, hW⟩ := hrel
        obtain ⟨hB, hBx⟩ := Pl.inn_bf hF.out hx.out j
        obtain ⟨va, vc, rfl, hWy⟩ := hW.out.at_
        have z0 := kk0.out _ hW.out.b
        have z1 := kk1.out _ hW.out.b
        have z2 := kk2.out _ hW.out.b
        by_cases hlt2 : j < 2 * q
        · have hi7 : (j : Int) - (q : Int) < (q : Int) := by omega
          have hsc := Pl.inn_succ (L := L) (⟨p', t', m'⟩, v') acc (j := j) (by omega)
          rw [hq] at hsc
          have hlj := Pl.bf_len hm1 hok.out hp hB
          have hXr := hX.trans (hW.out.b.mono hX.size)
          have HA := Lib.hid (fun (W : World) (hb : Below wr.heap.size wr W) => rStep_any s m a q cap L hq hq2 hok p' t' m' ht ((j : Int) - (q : Int)) (by omega) (by omega) W (Lib.hid (hL.out.below (hXr.trans (hb.mono hXr.size)))))
          have hadv := Pl.adv_stp L ⟨p', t', m'⟩ ((j : Int) - (q : Int))
          unfold Pl.addS at hsc
          simp only at hsc
          rw [hadv] at hsc
          obtain ⟨⟨⟨zp, zt, zm⟩, bb⟩, hY⟩ : ∃ z, Pl.stp L ⟨p', t', m'⟩ ((j : Int) - (q : Int)) = z := ⟨_, rfl⟩
          replace HA := HA.out
          rw [hY] at hsc HA
          simp only [stV] at HA
          simp only at hsc
          replace HA := Lib.hid HA
          replace hsc := Lib.hid hsc
          obtain ⟨x, wb, wc', rfl, g0, g1, g2, g3, hNs, hzn⟩ := hWy k _ hBx
          simp only at g0 g1 g2 g3 hNs
          have hkn : k < (Pl.inn L (⟨p', t', m'⟩, v') acc j).length := (List.getElem?_eq_some_iff.1 hBx).1
          obtain ⟨n, hn⟩ : ∃ n, (Pl.inn L (⟨p', t', m'⟩, v') acc j).length = n := ⟨_, rfl⟩
          rw [hn] at hkn hlj ⊢
          have hi8 : (k : Int) < (n : Int) := by omega
          have hw2 : IntKind.i64.wrap ((j : Int) - (q : Int) + 1) = (j : Int) - (q : Int) + 1 := by rw [IntWalk.i64_left]; exact IntWalk.wrap64_in _ (by omega)
          replace hn := Lib.hid hn
          replace hB := Lib.hid hB
          replace hWy := Lib.hid hWy
          replace hNs := Lib.hid hNs
          replace hzn := Lib.hid hzn
          obtain ⟨vl, hvl⟩ : ∃ vl, v'.length = vl := ⟨_, rfl⟩
          rw [hvl] at g3
          replace hvl := Lib.hid hvl
          clear hadv hY hBx
          go_upto_region 8 with fail
          go_cut [8, 9] from 32 to 42 (fun s8 s9 wx => ∃ nb, s8 = .pointer (some ⟨nb, 0, none⟩) ∧ s9 = .bool bb ∧ Hid (SP wx nb ⟨zp, zt, zm⟩) ∧ Hid (Below wr.heap.size wr wx))
          case first =>
            have hS4 := Lib.hid (fun (W : World) (hb9 : Below wr.heap.size wr W) => (⟨kept1 z0 hb9, kept1 z1 hb9, kept1 z2 hb9, kept1 g0 hb9, kept1 g1 hb9, kept1 g2 hb9⟩ : W.cell? ⟨w.heap.size, 0, none⟩ = some (.int .i64 s) ∧ W.cell? ⟨w.heap.size, 1, none⟩ = some (.int .i64 m) ∧ W.cell? ⟨w.heap.size, 2, none⟩ = some (.slice a q cap) ∧ W.cell? (x.add (k * 4)) = some (.int .i64 p') ∧ W.cell? ⟨(x.add (k * 4)).block, (x.add (k * 4)).off + 1, none⟩ = some (.int .i64 (t' : Int)) ∧ W.cell? ⟨(x.add (k * 4)).block, (x.add (k * 4)).off + 2, none⟩ = some (.bool m')))
            have hbD : Below wr.heap.size wr wr.drew := (Below.refl wr.heap.size wr).drew
            have S0 := hS4.out _ hbD
            clear hsc hW hB hWy hNs hzn hF hR kk0 kk1 kk2 z0 z1 z2 g0 g1 g2 g3 hin hx hlen hXr
            refine wp_region_held_drew (S := fun w' => w'.cell? ⟨w.heap.size, 0, none⟩ = some (.int .i64 s) ∧ w'.cell? ⟨w.heap.size, 1, none⟩ = some (.int .i64 m) ∧ w'.cell? ⟨w.heap.size, 2, none⟩ = some (.slice a q cap) ∧ w'.cell? (x.add (k * 4)) = some (.int .i64 p') ∧ w'.cell? ⟨(x.add (k * 4)).block, (x.add (k * 4)).off + 1, none⟩ = some (.int .i64 (t' : Int)) ∧ w'.cell? ⟨(x.add (k * 4)).block, (x.add (k * 4)).off + 2, none⟩ = some (.bool m')) (by kernel_rfl) S0 (fun hHeld => ?_)
            refine wpAnyH_take (i := 0) (v := ?_) rfl (by kernel_rfl) (by kernel_rfl) (by kernel_rfl) (fun _ _ _ h => h) (Or.inl ⟨by rfl, ?_⟩) (by assumption) ?_
            rotate_left 1
            · (intro w hSw; (try dsimp only at hSw); go_simp; all_goals with_reducible rfl)
            try simp only [Act.put, List.setIfInBounds_toArray, List.set_cons_zero, List.set_cons_succ]
            refine wpAnyH_take (i := 1) (v := ?_) rfl (by kernel_rfl) (by kernel_rfl) (by kernel_rfl) (fun _ _ _ h => h) (Or.inl ⟨by rfl, ?_⟩) (by assumption) ?_
            rotate_left 1
            · (intro w hSw; (try dsimp only at hSw); go_simp; all_goals with_reducible rfl)
            try simp only [Act.put, List.setIfInBounds_toArray, List.set_cons_zero, List.set_cons_succ]
            refine wpAnyH_take (i := 2) (v := ?_) rfl (by kernel_rfl) (by kernel_rfl) (by kernel_rfl) (fun _ _ _ h => h) (Or.inl ⟨by rfl, ?_⟩) (by assumption) ?_
            rotate_left 1
            · (intro w hSw; (try dsimp only at hSw); go_simp; all_goals with_reducible rfl)
            try simp only [Act.put, List.setIfInBounds_toArray, List.set_cons_zero, List.set_cons_succ]
            refine wpAnyH_take (i := 3) (v := ?_) rfl (by kernel_rfl) (by kernel_rfl) (by kernel_rfl) (fun _ _ _ h => h) (Or.inl ⟨by rfl, ?_⟩) (by assumption) ?_
            rotate_left 1
            · (intro w hSw; (try dsimp only at hSw); go_simp; all_goals with_reducible rfl)
            try simp only [Act.put, List.setIfInBounds_toArray, List.set_cons_zero, List.set_cons_succ]
            refine wpAnyH_take (i := 4) (v := ?_) rfl (by kernel_rfl) (by kernel_rfl) (by kernel_rfl) (fun _ _ _ h => h) (Or.inl ⟨by rfl, ?_⟩) (by assumption) ?_
            rotate_left 1
            · (intro w hSw; (try dsimp only at hSw); go_simp; all_goals with_reducible rfl)
            try simp only [Act.put, List.setIfInBounds_toArray, List.set_cons_zero, List.set_cons_succ]
            refine wpAnyH_take (i := 5) (v := ?_) rfl (by kernel_rfl) (by kernel_rfl) (by kernel_rfl) (fun _ _ _ h => h) (Or.inl ⟨by rfl, ?_⟩) (by assumption) ?_
            rotate_left 1
            · (intro w hSw; (try dsimp only at hSw); go_simp; all_goals with_reducible rfl)
            try simp only [Act.put, List.setIfInBounds_toArray, List.set_cons_zero, List.set_cons_succ]
            refine wpAnyH_take (i := 6) (v := ?_) rfl (by kernel_rfl) (by kernel_rfl) (by kernel_rfl) (fun _ _ _ h => h) (Or.inl ⟨by rfl, ?_⟩) (by assumption) ?_
            rotate_left 1
            · (intro w hSw; (try dsimp only at hSw); go_simp; all_goals with_reducible rfl)
            try simp only [Act.put, List.setIfInBounds_toArray, List.set_cons_zero, List.set_cons_succ]
            try simp only [List.getElem_toArray, List.getElem_cons_succ, List.getElem_cons_zero, Act.put, List.setIfInBounds_toArray, List.set_cons_zero, List.set_cons_succ]
            generalize wr.drew = D at *
            refine wpAnyH_ready (rs := [7, 11]) (by kernel_rfl) (by simp) ?_
            refine AllReadyH.cons rfl (fun K hK => ?_) (AllReadyH.cons rfl (fun K hK => ?_) (AllReadyH.nil))
            · go_simp
              with_reducible refine (HA.out _ hbD).mono ?_
              rintro e w2 ⟨rfl, hb2'⟩
              have hb2 : Below wr.heap.size wr w2 := hbD.trans (hb2'.mono hbD.size)
              refine hK.out _ _ (hS4.out _ hb2) (fun hHeld2 => ?_)
              clear hK K hHeld
              try simp only [List.getElem_toArray, List.getElem_cons_succ, List.getElem_cons_zero, Act.put, List.setIfInBounds_toArray, List.set_cons_zero, List.set_cons_succ]
              refine wpAnyH_take (i := 8) (v := ?_) rfl (by kernel_rfl) (by kernel_rfl) (by kernel_rfl) (fun _ _ _ h => h) (Or.inl ⟨by rfl, ?_⟩) (by assumption) ?_
              rotate_left 1
              · (intro w hSw; (try dsimp only at hSw); go_simp; all_goals with_reducible rfl)
              try simp only [Act.put, List.setIfInBounds_toArray, List.set_cons_zero, List.set_cons_succ]
              refine wpAnyH_take (i := 9) (v := ?_) rfl (by kernel_rfl) (by kernel_rfl) (by kernel_rfl) (fun _ _ _ h => h) (Or.inl ⟨by rfl, ?_⟩) (by assumption) ?_
              rotate_left 1
              · (intro w hSw; (try dsimp only at hSw); go_simp; all_goals with_reducible rfl)
              try simp only [Act.put, List.setIfInBounds_toArray, List.set_cons_zero, List.set_cons_succ]
              refine wpAnyH_take (i := 10) (v := ?_) rfl (by kernel_rfl) (by kernel_rfl) (by kernel_rfl) (fun _ _ _ h => h) (Or.inl ⟨by rfl, ?_⟩) (by assumption) ?_
              rotate_left 1
              · (intro w hSw; (try dsimp only at hSw); go_simp; all_goals with_reducible rfl)
              try simp only [Act.put, List.setIfInBounds_toArray, List.set_cons_zero, List.set_cons_succ]
              refine wpAnyH_ready (rs := [11]) (by kernel_rfl) (by simp) ?_
              refine AllReadyH.cons rfl (fun K hK => ?_) (AllReadyH.nil)
              have rA := sp_new0 w2
              have hbU : Below wr.heap.size wr (w2.alloc (Obj.cells #[.int .i64 0, .int .i64 0, .bool false] 100)) := below_alloc hb2 _
              have hge : wr.heap.size ≤ w2.heap.size := hb2.size
              go_simp
              refine hK.out _ _ (hS4.out _ hbU) (fun hHeld => ?_)
              clear hK K hHeld2
              generalize w2.alloc (Obj.cells #[.int .i64 0, .int .i64 0, .bool false] 100) = U at *
              generalize w2.heap.size = sb at *
              try simp only [List.getElem_toArray, List.getElem_cons_succ, List.getElem_cons_zero, Act.put, List.setIfInBounds_toArray, List.set_cons_zero, List.set_cons_succ]
              have a0 : U.cell? ⟨sb, 0, none⟩ = some (.int .i64 0) := World.rowIs.cell rA (i := 0) (by omega)
              have a1 : U.cell? ⟨sb, 1, none⟩ = some (.int .i64 0) := World.rowIs.cell rA (i := 1) (by omega)
              have a2 : U.cell? ⟨sb, 2, none⟩ = some (.bool false) := World.rowIs.cell rA (i := 2) (by omega)
              have x0 := World.rowIs.frozen rA 0
              have x1 := World.rowIs.frozen rA 1
              have x2 := World.rowIs.frozen rA 2
              have rS : Hid (SP (((U.setCell ⟨sb, 0, none⟩ (.int .i64 zp)).setCell ⟨sb, 1, none⟩ (.int .i64 (zt : Int))).setCell ⟨sb, 2, none⟩ (.bool zm)) sb ⟨zp, zt, zm⟩) := Lib.hid (SP.set rA ⟨zp, zt, zm⟩)
              have hbZ : Below wr.heap.size wr (((U.setCell ⟨sb, 0, none⟩ (.int .i64 zp)).setCell ⟨sb, 1, none⟩ (.int .i64 (zt : Int))).setCell ⟨sb, 2, none⟩ (.bool zm)) := ((hbU.setCell (p := ⟨sb, 0, none⟩) hge _).setCell (p := ⟨sb, 1, none⟩) hge _).setCell (p := ⟨sb, 2, none⟩) hge _
              refine wpAnyH_ready (rs := [12]) (by kernel_rfl) (by simp) ?_
              refine AllReadyH.cons rfl (fun K hK => ?_) (AllReadyH.nil)
              go_simp
              refine hK.out _ _ (hS4.out _ hbZ) (fun hHeld3 => ?_)
              clear a0 a1 a2 x0 x1 x2 rA hbU hK K
              generalize ((U.setCell ⟨sb, 0, none⟩ (.int .i64 zp)).setCell ⟨sb, 1, none⟩ (.int .i64 (zt : Int))).setCell ⟨sb, 2, none⟩ (.bool zm) = Z9 at *
              try simp only [List.getElem_toArray, List.getElem_cons_succ, List.getElem_cons_zero, Act.put, List.setIfInBounds_toArray, List.set_cons_zero, List.set_cons_succ]
              refine wpAnyH_take (i := 13) (v := ?_) rfl (by kernel_rfl) (by kernel_rfl) (by kernel_rfl) (fun _ _ _ h => h) (Or.inl ⟨by rfl, ?_⟩) (by assumption) ?_
              rotate_left 1
              · (intro w hSw; (try dsimp only at hSw); go_simp; all_goals with_reducible rfl)
              try simp only [Act.put, List.setIfInBounds_toArray, List.set_cons_zero, List.set_cons_succ]
              refine wpAnyH_done (by kernel_rfl) ?_ _
              try simp only [List.getElem_toArray, List.getElem_cons_succ, List.getElem_cons_zero, Act.put, List.setIfInBounds_toArray, List.set_cons_zero, List.set_cons_succ]
              clear hHeld3
              go_wp2
              go_meet
              exact ⟨_, rfl, rfl, rS, Lib.hid hbZ⟩
            · have rA' := sp_new0 D
              have hbU' : Below wr.heap.size wr (D.alloc (Obj.cells #[.int .i64 0, .int .i64 0, .bool false] 100)) := below_alloc hbD _
              have hge : wr.heap.size ≤ D.heap.size := hbD.size
              go_simp
              refine hK.out _ _ (hS4.out _ hbU') (fun hHeld2 => ?_)
              clear hK K hHeld
              generalize D.alloc (Obj.cells #[.int .i64 0, .int .i64 0, .bool false] 100) = U' at *
              generalize D.heap.size = sb at *
              try simp only [List.getElem_toArray, List.getElem_cons_succ, List.getElem_cons_zero, Act.put, List.setIfInBounds_toArray, List.set_cons_zero, List.set_cons_succ]
              refine wpAnyH_ready (rs := [7]) (by kernel_rfl) (by simp) ?_
              refine AllReadyH.cons rfl (fun K hK => ?_) (AllReadyH.nil)
              go_simp
              with_reducible refine (HA.out _ hbU').mono ?_
              rintro e U ⟨rfl, hb2'⟩
              have rA := rA'.below hb2'
              have hbU : Below wr.heap.size wr U := hbU'.trans (hb2'.mono hbU'.size)
              refine hK.out _ _ (hS4.out _ hbU) (fun hHeld => ?_)
              clear hK K hHeld2
              try simp only [List.getElem_toArray, List.getElem_cons_succ, List.getElem_cons_zero, Act.put, List.setIfInBounds_toArray, List.set_cons_zero, List.set_cons_succ]
              refine wpAnyH_take (i := 8) (v := ?_) rfl (by kernel_rfl) (by kernel_rfl) (by kernel_rfl) (fun _ _ _ h => h) (Or.inl ⟨by rfl, ?_⟩) (by assumption) ?_
              rotate_left 1
              · (intro w hSw; (try dsimp only at hSw); go_simp; all_goals with_reducible rfl)
              try simp only [Act.put, List.setIfInBounds_toArray, List.set_cons_zero, List.set_cons_succ]
              refine wpAnyH_take (i := 9) (v := ?_) rfl (by kernel_rfl) (by kernel_rfl) (by kernel_rfl) (fun _ _ _ h => h) (Or.inl ⟨by rfl, ?_⟩) (by assumption) ?_
              rotate_left 1
              · (intro w hSw; (try dsimp only at hSw); go_simp; all_goals with_reducible rfl)
              try simp only [Act.put, List.setIfInBounds_toArray, List.set_cons_zero, List.set_cons_succ]
              refine wpAnyH_take (i := 10) (v := ?_) rfl (by kernel_rfl) (by kernel_rfl) (by kernel_rfl) (fun _ _ _ h => h) (Or.inl ⟨by rfl, ?_⟩) (by assumption) ?_
              rotate_left 1
              · (intro w hSw; (try dsimp only at hSw); go_simp; all_goals with_reducible rfl)
              try simp only [Act.put, List.setIfInBounds_toArray, List.set_cons_zero, List.set_cons_succ]
              try simp only [List.getElem_toArray, List.getElem_cons_succ, List.getElem_cons_zero, Act.put, List.setIfInBounds_toArray, List.set_cons_zero, List.set_cons_succ]
              have a0 : U.cell? ⟨sb, 0, none⟩ = some (.int .i64 0) := World.rowIs.cell rA (i := 0) (by omega)
              have a1 : U.cell? ⟨sb, 1, none⟩ = some (.int .i64 0) := World.rowIs.cell rA (i := 1) (by omega)
              have a2 : U.cell? ⟨sb, 2, none⟩ = some (.bool false) := World.rowIs.cell rA (i := 2) (by omega)
              have x0 := World.rowIs.frozen rA 0
              have x1 := World.rowIs.frozen rA 1
              have x2 := World.rowIs.frozen rA 2
              have rS : Hid (SP (((U.setCell ⟨sb, 0, none⟩ (.int .i64 zp)).setCell ⟨sb, 1, none⟩ (.int .i64 (zt : Int))).setCell ⟨sb, 2, none⟩ (.bool zm)) sb ⟨zp, zt, zm⟩) := Lib.hid (SP.set rA ⟨zp, zt, zm⟩)
              have hbZ : Below wr.heap.size wr (((U.setCell ⟨sb, 0, none⟩ (.int .i64 zp)).setCell ⟨sb, 1, none⟩ (.int .i64 (zt : Int))).setCell ⟨sb, 2, none⟩ (.bool zm)) := ((hbU.setCell (p := ⟨sb, 0, none⟩) hge _).setCell (p := ⟨sb, 1, none⟩) hge _).setCell (p := ⟨sb, 2, none⟩) hge _
              refine wpAnyH_ready (rs := [12]) (by kernel_rfl) (by simp) ?_
              refine AllReadyH.cons rfl (fun K hK => ?_) (AllReadyH.nil)
              go_simp
              refine hK.out _ _ (hS4.out _ hbZ) (fun hHeld3 => ?_)
              clear a0 a1 a2 x0 x1 x2 rA hbU hK K
              generalize ((U.setCell ⟨sb, 0, none⟩ (.int .i64 zp)).setCell ⟨sb, 1, none⟩ (.int .i64 (zt : Int))).setCell ⟨sb, 2, none⟩ (.bool zm) = Z9 at *
              try simp only [List.getElem_toArray, List.getElem_cons_succ, List.getElem_cons_zero, Act.put, List.setIfInBounds_toArray, List.set_cons_zero, List.set_cons_succ]
              refine wpAnyH_take (i := 13) (v := ?_) rfl (by kernel_rfl) (by kernel_rfl) (by kernel_rfl) (fun _ _ _ h => h) (Or.inl ⟨by rfl, ?_⟩) (by assumption) ?_
              rotate_left 1
              · (intro w hSw; (try dsimp only at hSw); go_simp; all_goals with_reducible rfl)
              try simp only [Act.put, List.setIfInBounds_toArray, List.set_cons_zero, List.set_cons_succ]
              refine wpAnyH_done (by kernel_rfl) ?_ _
              try simp only [List.getElem_toArray, List.getElem_cons_succ, List.getElem_cons_zero, Act.put, List.setIfInBounds_toArray, List.set_cons_zero, List.set_cons_succ]
              clear hHeld3
              go_wp2
              go_meet
              exact ⟨_, rfl, rfl, rS, Lib.hid hbZ⟩
          case rest =>
            obtain ⟨nb, rfl, rfl, hSP, hV⟩ := hcut
            replace hV := hV.out
            replace hW := Lib.hid (hW.out.below hV)
            replace hWy := Lib.hid (hWy.out.below hV)
            replace hNs := Lib.hid (hNs.out.below hV)
            replace g3 := kept1 g3 hV
            clear HA hV z0 z1 z2 g0 g1 g2 hXr
            generalize wc = V at *
            go_wp2
            go_loopw [10, 9] (fun iv ov W => ∃ (kk : Nat), kk ≤ n ∧ iv = .int .i64 (kk : Int) ∧ ov = .bool (nwB ⟨zp, zt, zm⟩ bb ((Pl.inn L (⟨p', t', m'⟩, v') acc j).take kk)) ∧ Hid (Below V.heap.size V W)) (fun iv _ _ => n - (RowKit.intOf iv).toNat)
            case atStart => exact ⟨0, Nat.zero_le _, rfl, by simp [nwB], Lib.hid (Below.refl _ _)⟩
            case round =>
              obtain ⟨kk, hkk, rfl, rfl, hV⟩ := hrel
              replace hV := hV.out
              by_cases hlt3 : kk < n
              · have hi9 : (kk : Int) < (n : Int) := by omega
                have hi10 : (0 : Int) ≤ (kk : Int) := by omega
                obtain ⟨⟨⟨ep, et, em⟩, ev⟩, he⟩ : ∃ e, (Pl.inn L (⟨p', t', m'⟩, v') acc j)[kk]? = some e := ⟨_, List.getElem?_eq_getElem (by have := hn.out; omega)⟩
                obtain ⟨x2, eb, ec, ex, e0, e1, e2, _⟩ := hWy.out kk _ he
                obtain rfl := Option.some.inj ex
                simp only at e0 e1 e2
                replace e0 := kept1 e0 hV
                replace e1 := kept1 e1 hV
                replace e2 := kept1 e2 hV
                have hst := nwB_step (z := ⟨zp, zt, zm⟩) (b := bb) he
                have hs0 := hSP.out.cell (i := 0) (by omega)
                have hs1 := hSP.out.cell (i := 1) (by omega)
                have hs2 := hSP.out.cell (i := 2) (by omega)
                simp only [if_true, if_false, Nat.succ_ne_self, Nat.reduceEqDiff] at hs0 hs1 hs2
                replace hs0 := kept1 hs0 hV
                replace hs1 := kept1 hs1 hV
                replace hs2 := kept1 hs2 hV
                obtain ⟨ok, hok9⟩ : ∃ ok, nwB ⟨zp, zt, zm⟩ bb ((Pl.inn L (⟨p', t', m'⟩, v') acc j).take kk) = ok := ⟨_, rfl⟩
                rw [hok9] at hst
                have hne := run_neq_sp ep zp (et : Int) (zt : Int) em zm
                have hgd := sp_guard
                obtain ⟨sm, hsm⟩ : ∃ sm, decide (ep = zp ∧ (et : Int) = (zt : Int) ∧ em = zm) = sm := ⟨_, rfl⟩
                rw [hsm] at hne
                have hst2 : Hid (nwB ⟨zp, zt, zm⟩ bb ((Pl.inn L (⟨p', t', m'⟩, v') acc j).take (kk + 1)) = (ok && !sm)) := Lib.hid (by
                  rw [hst, ← hsm]
                  congr 1
                  rw [Bool.eq_iff_iff, decide_eq_true_eq, Bool.not_eq_true', decide_eq_false_iff_not]
                  refine not_congr ?_
                  rw [Pl.St.mk.injEq, Int.ofNat_inj])
                rw [hok9]
                replace hsm := Lib.hid hsm
                have hV9 := Lib.hid hV
                clear hst hok9 he hV
                cases ok
                · go_upto_region 12 with fail
                  go_quiet (fail)
                  have hbn := fun nq => Lib.hid (below_drewN hV9.out nq)
                  clear hne hgd e0 e1 e2 hs0 hs1 hs2 hV9
                  go_wp2
                  go_roundw
                  case rel => exact ⟨kk + 1, by omega, by go_num, by rw [hst2.out]; rfl, hbn _⟩
                  case measure => first | (simp [RowKit.intOf]; done) | (simp [RowKit.intOf]; omega) | omega
                · go_upto_region 12 with fail
                  go_quiet (fail)
                  have hbn := fun nq => Lib.hid (below_drewN hV9.out nq)
                  clear hne hgd e0 e1 e2 hs0 hs1 hs2 hV9
                  go_wp2
                  go_roundw
                  case rel => exact ⟨kk + 1, by omega, by go_num, by rw [hst2.out]; rfl, hbn _⟩
                  case measure => first | (simp [RowKit.intOf]; done) | (simp [RowKit.intOf]; omega) | omega
              · obtain rfl : kk = n := by omega
                have hi9 : ¬ (kk : Int) < (kk : Int) := by omega
                have htk : (Pl.inn L (⟨p', t', m'⟩, v') acc j).take kk = Pl.inn L (⟨p', t', m'⟩, v') acc j := List.take_of_length_le (by have := hn.out; omega)
                rw [htk]
                clear htk hlt3
                replace hW := Lib.hid (hW.out.below hV)
                replace hNs := Lib.hid (hNs.out.below hV)
                replace g3 := kept1 g3 hV
                replace hSP := Lib.hid (hSP.out.below hV)
                clear hV hWy
                obtain ⟨ok, hok9⟩ : ∃ ok, nwB ⟨zp, zt, zm⟩ bb (Pl.inn L (⟨p', t', m'⟩, v') acc j) = ok := ⟨_, rfl⟩
                rw [hok9]
                cases ok
                · have hnext : Hid (Pl.inn L (⟨p', t', m'⟩, v') acc (j + 1) = Pl.inn L (⟨p', t', m'⟩, v') acc j) := Lib.hid (by
                    rw [hsc.out]
                    cases bb with
                    | false => rfl
                    | true =>
                      have hmem : (⟨zp, zt, zm⟩ : Pl.St) ∈ (Pl.inn L (⟨p', t', m'⟩, v') acc j).map Prod.fst := Decidable.not_not.1 fun h => by
                        have := nwB_true.2 ⟨(rfl : true = true), h⟩
                        rw [hok9] at this
                        cases this
                      simp only [if_true]
                      rw [if_pos hmem])
                  have hWn := hW.out
                  rw [← hnext.out] at hWn
                  rw [show (Pl.inn L (⟨p', t', m'⟩, v') acc (j + 1)).length = kk by rw [hnext.out]; exact hn.out] at hWn
                  replace hWn := Lib.hid hWn
                  clear hok9 hsc hW hNs hSP g3 hnext
                  go_wp2
                  go_roundw
                  case rel => exact ⟨j + 1, Z, by omega, by go_num, hWn⟩
                  case measure => first | (simp [RowKit.intOf]; done) | (simp [RowKit.intOf]; omega) | omega
                · obtain ⟨hbb, hnot⟩ := nwB_true.1 hok9
                  subst hbb
                  have hnext : Hid (Pl.inn L (⟨p', t', m'⟩, v') acc (j + 1) = Pl.inn L (⟨p', t', m'⟩, v') acc j ++ [(⟨zp, zt, zm⟩, v' ++ [(j : Int) - (q : Int)])]) := Lib.hid (by
                    rw [hsc.out]
                    simp only [if_true]
                    rw [if_neg hnot])
                  have hs0 := hSP.out.cell (i := 0) (by omega)
                  have hs1 := hSP.out.cell (i := 1) (by omega)
                  have hs2 := hSP.out.cell (i := 2) (by omega)
                  simp only [if_true, if_false, Nat.succ_ne_self, Nat.reduceEqDiff] at hs0 hs1 hs2
                  have hW2 : Hid (WyL X wr (.slice (some x) kk vc) (Pl.inn L (⟨p', t', m'⟩, v') acc j) Z) := Lib.hid (by have h := hW.out; rw [hn.out] at h; exact h)
                  clear hok9 hnot hsc hSP hW
                  go_upto_region 14 with fail
                  have S0 : wr.drew.cell? ⟨nb, 0, none⟩ = some (.int .i64 zp) ∧ wr.drew.cell? ⟨nb, 1, none⟩ = some (.int .i64 (zt : Int)) ∧ wr.drew.cell? ⟨nb, 2, none⟩ = some (.bool zm) ∧ wr.drew.cell? ⟨(x.add (k * 4)).block, (x.add (k * 4)).off + 3, none⟩ = some (.slice wb vl wc') := ⟨hs0, hs1, hs2, g3⟩
                  have hS4 := Lib.hid (fun (W : World) (hb : Below wr.drew.heap.size wr.drew W) => (⟨kept1 S0.1 hb, kept1 S0.2.1 hb, kept1 S0.2.2.1 hb, kept1 S0.2.2.2 hb⟩ : W.cell? ⟨nb, 0, none⟩ = some (.int .i64 zp) ∧ W.cell? ⟨nb, 1, none⟩ = some (.int .i64 (zt : Int)) ∧ W.cell? ⟨nb, 2, none⟩ = some (.bool zm) ∧ W.cell? ⟨(x.add (k * 4)).block, (x.add (k * 4)).off + 3, none⟩ = some (.slice wb vl wc')))
                  have hbD : Below wr.heap.size wr wr.drew := (Below.refl _ _).drew
                  have hNd := Lib.hid (fun (W : World) (hb : Below wr.drew.heap.size wr.drew W) => hNs.out.below (hbD.trans (hb.mono hbD.size)))
                  have hfinW := Lib.hid (fun (W : World) (hb : Below wr.drew.heap.size wr.drew W) => hW2.out.below (hbD.trans (hb.mono hbD.size)))
                  have hown0 := Lib.hid (fun (g : Nat) (hg : (Value.slice (some x) kk vc).ownBlock = some g) => (ownLt hW2.out.o hg : g < wr.drew.heap.size))
                  have hbase : X.heap.size ≤ wr.drew.heap.size := hW2.out.b.size
                  have hYs : Hid (wr.drew.heap.size = wr.heap.size) := Lib.hid rfl
                  have r0 := Lib.hid (A4.new wr.drew ((j : Int) - (q : Int)))
                  have hvl16 : vl ≤ 1000 := by
                    have h2 := Pl.walk_len (Pl.Par.fold ((Pl.stps L.length).take j) acc hPr.out (List.mem_of_getElem? hx.out)) (List.mem_of_getElem? (Pl.inn_bf hF.out hx.out j).2)
                    have h3 := hn.out
                    unfold Pl.inn at h3
                    rw [hvl.out, h3] at h2
                    omega
                  clear hs0 hs1 hs2 g3 hNs hW2 hbD kk0 kk1 kk2
                  refine region_head_held 14 (fun w' => w'.cell? ⟨nb, 0, none⟩ = some (.int .i64 zp) ∧ w'.cell? ⟨nb, 1, none⟩ = some (.int .i64 (zt : Int)) ∧ w'.cell? ⟨nb, 2, none⟩ = some (.bool zm) ∧ w'.cell? ⟨(x.add (k * 4)).block, (x.add (k * 4)).off + 3, none⟩ = some (.slice wb vl wc')) (by kernel_rfl) (by kernel_rfl) S0 (fun hHeld => ?_)
                  simp only [List.take_succ_cons, List.take_zero, List.drop_succ_cons, List.drop_zero]
                  refine wpAnyH_take (i := 0) (v := ?_) rfl (by kernel_rfl) (by kernel_rfl) (by kernel_rfl) (fun _ _ _ h => h) (Or.inl ⟨by rfl, ?_⟩) (by assumption) ?_
                  rotate_left 1
                  · (intro w hSw; (try dsimp only at hSw); go_simp; all_goals with_reducible rfl)
                  try simp only [Act.put, List.setIfInBounds_toArray, List.set_cons_zero, List.set_cons_succ]
                  refine wpAnyH_take (i := 1) (v := ?_) rfl (by kernel_rfl) (by kernel_rfl) (by kernel_rfl) (fun _ _ _ h => h) (Or.inl ⟨by rfl, ?_⟩) (by assumption) ?_
                  rotate_left 1
                  · (intro w hSw; (try dsimp only at hSw); go_simp; all_goals with_reducible rfl)
                  try simp only [Act.put, List.setIfInBounds_toArray, List.set_cons_zero, List.set_cons_succ]
                  refine wpAnyH_take (i := 3) (v := ?_) rfl (by kernel_rfl) (by kernel_rfl) (by kernel_rfl) (fun _ _ _ h => h) (Or.inl ⟨by rfl, ?_⟩) (by assumption) ?_
                  rotate_left 1
                  · (intro w hSw; (try dsimp only at hSw); go_simp; all_goals with_reducible rfl)
                  try simp only [Act.put, List.setIfInBounds_toArray, List.set_cons_zero, List.set_cons_succ]
                  refine wpAnyH_take (i := 4) (v := ?_) rfl (by kernel_rfl) (by kernel_rfl) (by kernel_rfl) (fun _ _ _ h => h) (Or.inl ⟨by rfl, ?_⟩) (by assumption) ?_
                  rotate_left 1
                  · (intro w hSw; (try dsimp only at hSw); go_simp; all_goals with_reducible rfl)
                  try simp only [Act.put, List.setIfInBounds_toArray, List.set_cons_zero, List.set_cons_succ]
                  refine wpAnyH_take (i := 5) (v := ?_) rfl (by kernel_rfl) (by kernel_rfl) (by kernel_rfl) (fun _ _ _ h => h) (Or.inl ⟨by rfl, ?_⟩) (by assumption) ?_
                  rotate_left 1
                  · (intro w hSw; (try dsimp only at hSw); go_simp; all_goals with_reducible rfl)
                  try simp only [Act.put, List.setIfInBounds_toArray, List.set_cons_zero, List.set_cons_succ]
                  refine wpAnyH_take (i := 6) (v := ?_) rfl (by kernel_rfl) (by kernel_rfl) (by kernel_rfl) (fun _ _ _ h => h) (Or.inl ⟨by rfl, ?_⟩) (by assumption) ?_
                  rotate_left 1
                  · (intro w hSw; (try dsimp only at hSw); go_simp; all_goals with_reducible rfl)
                  try simp only [Act.put, List.setIfInBounds_toArray, List.set_cons_zero, List.set_cons_succ]
                  refine wpAnyH_take (i := 7) (v := ?_) rfl (by kernel_rfl) (by kernel_rfl) (by kernel_rfl) (fun _ _ _ h => h) (Or.inl ⟨by rfl, ?_⟩) (by assumption) ?_
                  rotate_left 1
                  · (intro w hSw; (try dsimp only at hSw); go_simp; all_goals with_reducible rfl)
                  try simp only [Act.put, List.setIfInBounds_toArray, List.set_cons_zero, List.set_cons_succ]
                  refine wpAnyH_take (i := 9) (v := ?_) rfl (by kernel_rfl) (by kernel_rfl) (by kernel_rfl) (fun _ _ _ h => h) (Or.inl ⟨by rfl, ?_⟩) (by assumption) ?_
                  rotate_left 1
                  · (intro w hSw; (try dsimp only at hSw); go_simp; all_goals with_reducible rfl)
                  try simp only [Act.put, List.setIfInBounds_toArray, List.set_cons_zero, List.set_cons_succ]
                  try simp only [List.getElem_toArray, List.getElem_cons_succ, List.getElem_cons_zero, Act.put, List.setIfInBounds_toArray, List.set_cons_zero, List.set_cons_succ]
                  generalize wr.drew = Y0 at *
                  refine wpAnyH_ready (rs := [2, 10]) (by kernel_rfl) (by simp) ?_
                  refine AllReadyH.cons rfl (fun K hK => ?_) (AllReadyH.cons rfl (fun K hK => ?_) (AllReadyH.nil))
                  · skip
                    have hq9 := Lib.hid r0.out.lit
                    have hb9 := Lib.hid hq9.out.b
                    go_simp
                    refine hK.out _ _ (hS4.out _ hb9.out) (fun hH1 => ?_)
                    generalize Y0.alloc (Obj.cells #[] 3) = Y1 at *
                    generalize hv9 : (Value.slice (some ⟨_, 0, none⟩) 0 0) = vA at *
                    clear hv9
                    have r1 := hq9
                    clear hK K hq9 hb9 r0
                    try simp only [List.getElem_toArray, List.getElem_cons_succ, List.getElem_cons_zero, Act.put, List.setIfInBounds_toArray, List.set_cons_zero, List.set_cons_succ]
                    refine wpAnyH_ready (rs := [8, 10]) (by kernel_rfl) (by simp) ?_
                    refine AllReadyH.cons rfl (fun K hK => ?_) (AllReadyH.cons rfl (fun K hK => ?_) (AllReadyH.nil))
                    · skip
                      obtain ⟨v2, Y2, hr, hq9, hb9⟩ := r1.out.app hvl.out (hNd.out _ r1.out.b) hzn.out (by simp; omega)
                      replace hq9 := Lib.hid hq9
                      replace hb9 := Lib.hid hb9
                      first | refine step_app rfl (.tmp 62) (.tmp 67) 22 rfl rfl rfl hr ?_ | refine wp_app (.tmp 62) (.tmp 67) 22 rfl rfl rfl hr ?_
                      refine hK.out _ _ (hS4.out _ hb9.out) (fun hH2 => ?_)
                      clear hr
                      have r2 := hq9
                      clear hK K hq9 hb9 r1
                      try simp only [List.getElem_toArray, List.getElem_cons_succ, List.getElem_cons_zero, Act.put, List.setIfInBounds_toArray, List.set_cons_zero, List.set_cons_succ]
                      refine wpAnyH_ready (rs := [10]) (by kernel_rfl) (by simp) ?_
                      refine AllReadyH.cons rfl (fun K hK => ?_) (AllReadyH.nil)
                      · skip
                        have hq9 := Lib.hid r2.out.box
                        have hb9 := Lib.hid hq9.out.b
                        go_simp
                        refine hK.out _ _ (hS4.out _ hb9.out) (fun hH3 => ?_)
                        generalize Y2.alloc (Obj.cells #[.int .i64 ((j : Int) - (q : Int))] 3) = Y3 at *
                        have r3 := hq9
                        clear hK K hq9 hb9 r2
                        try simp only [List.getElem_toArray, List.getElem_cons_succ, List.getElem_cons_zero, Act.put, List.setIfInBounds_toArray, List.set_cons_zero, List.set_cons_succ]
                        obtain ⟨k1, k2, _⟩ := r3.out.s _ rfl
                        obtain ⟨v3, Y4, hr, hq9, hb9⟩ := r3.out.app (l := [((j : Int) - (q : Int))]) rfl (ns_one k2) (fun h => by cases h) (by have := hvl.out; simp; omega)
                        have hb8 := Lib.hid hb9
                        have ho9 := hq9.o _ _ rfl
                        rw [List.nil_append, List.length_append, hvl.out, show [((j : Int) - (q : Int))].length = 1 from rfl] at ho9
                        obtain ⟨b9, c9, hv9, hN9, hz9⟩ := ns_of_ownsZ (v := v3) (l := v' ++ [((j : Int) - (q : Int))]) (n := vl + 1) (by rw [List.length_append, hvl.out]; rfl) ho9
                        subst hv9
                        replace hq9 := Lib.hid hq9
                        refine wpAnyH_ready (rs := [11]) (by kernel_rfl) (by simp) ?_
                        refine AllReadyH.cons rfl (fun K hK => ?_) ?_
                        rotate_left 1
                        · exact AllReadyH.nil
                        first | refine step_app rfl (.tmp 68) (.tmp 70) 22 rfl rfl rfl hr ?_ | refine wp_app (.tmp 68) (.tmp 70) 22 rfl rfl rfl hr ?_
                        refine hK.out _ _ (hS4.out _ hb9) (fun hH4 => ?_)
                        clear hK K hr k1 k2 r3
                        try simp only [List.getElem_toArray, List.getElem_cons_succ, List.getElem_cons_zero, Act.put, List.setIfInBounds_toArray, List.set_cons_zero, List.set_cons_succ]
                        have hbf : Hid (∀ y, b9 = some y → y.block < Y4.heap.size ∧ (Value.slice (some x) kk vc).ownBlock ≠ some y.block) := Lib.hid (fun y e => by
                          subst e
                          have h1 := ownFar ho9 (g := y.block) rfl
                          refine ⟨ownLt ho9 (g := y.block) rfl, fun e => ?_⟩
                          have h2 := hown0.out _ e
                          have h3 := hYs.out
                          omega)
                        have hW9 := Lib.hid (hfinW.out _ hb9)
                        replace hN9 := Lib.hid hN9
                        replace hz9 := Lib.hid hz9
                        have hszz := hb9.size
                        refine wpAnyH_take (i := 12) (v := ?_) rfl (by kernel_rfl) (by kernel_rfl) (by kernel_rfl) (fun _ _ _ h => h) (Or.inl ⟨by rfl, ?_⟩) (by assumption) ?_
                        rotate_left 1
                        · (intro w hSw; (try dsimp only at hSw); go_simp; all_goals with_reducible rfl)
                        try simp only [Act.put, List.setIfInBounds_toArray, List.set_cons_zero, List.set_cons_succ]
                        try simp only [List.getElem_toArray, List.getElem_cons_succ, List.getElem_cons_zero, Act.put, List.setIfInBounds_toArray, List.set_cons_zero, List.set_cons_succ]
                        refine wpAnyH_ready (rs := [13]) (by kernel_rfl) (by simp) ?_
                        refine AllReadyH.cons rfl (fun K hK => ?_) ?_
                        rotate_left 1
                        · exact AllReadyH.nil
                        go_simp
                        refine hK.out _ _ (hS4.out _ (below_alloc hb9 _)) (fun hHx => ?_)
                        clear hK K hHx
                        try simp only [List.getElem_toArray, List.getElem_cons_succ, List.getElem_cons_zero, Act.put, List.setIfInBounds_toArray, List.set_cons_zero, List.set_cons_succ]
                        refine wpAnyH_done (by kernel_rfl) ?_ _
                        show wpList _ _ _ _ _ _
                        generalize Y4 = U at *
                        clear hq9 hb9 hb8 ho9 hS4 hNd hfinW hown0 hHeld hH4
                        have o9 := hW9.out.o
                        rw [hn.out] at o9
                        go_wp2_with (first
                          | (at_builtin; refine wpList_append_own_at _ rfl (.tmp 60) (.tmp 73) 97 rfl X.heap.size 102 i0 (.agg #[.int .i64 0, .int .i64 0, .bool false, .slice none 0 0]) 4 48 Tryd.underlying97 hi hz0 hz1 hz2 rfl (by decide) _ _ _ rfl (o9.alloc _) ⟨U.heap.size, 0, none⟩ 1 1 [.int .i64 zp, .int .i64 (zt : Int), .bool zm, .slice b9 (vl + 1) c9] rfl rfl ?cu1 ?cu2 ?cu3 ?cu4 ?cu5 ?_)
                          | fail)
                        case cu2 => first | exact ⟨rfl, rfl, rfl, rfl⟩ | (intro u hu; simp at hu; rcases hu with rfl | rfl | rfl | rfl <;> rfl)
                        case cu3 => unfold maxLen; omega
                        case cu4 => omega
                        case cu5 => first | omega | (simp; omega)
                        intro v'' w4 hown' hgrow hnn hat
                        have hWn := hW9.out.more (y := ⟨zp, zt, zm⟩) (l := v' ++ [((j : Int) - (q : Int))]) (n := vl + 1) (by rw [List.length_append, hvl.out]; rfl) hN9.out hz9.out hbf.out (by rw [hn.out]; exact hown') hgrow hat
                        rw [← hnext.out] at hWn
                        obtain ⟨pp, cpp, rfl⟩ := ownForm hown'
                        replace hWn := Lib.hid hWn
                        clear hown' hgrow hnn hat hbf hN9 hz9 hW9 o9 hnext
                        go_wp2
                        go_roundw
                        case rel => exact ⟨j + 1, _, by omega, by go_num, hWn⟩
                        case measure => first | (simp [RowKit.intOf]; done) | (simp [RowKit.intOf]; omega) | omega
                    · skip
                      have hq9 := Lib.hid r1.out.box
                      have hb9 := Lib.hid hq9.out.b
                      go_simp
                      refine hK.out _ _ (hS4.out _ hb9.out) (fun hH2 => ?_)
                      generalize Y1.alloc (Obj.cells #[.int .i64 ((j : Int) - (q : Int))] 3) = Y2 at *
                      have r2 := hq9
                      clear hK K hq9 hb9 r1
                      try simp only [List.getElem_toArray, List.getElem_cons_succ, List.getElem_cons_zero, Act.put, List.setIfInBounds_toArray, List.set_cons_zero, List.set_cons_succ]
                      refine wpAnyH_ready (rs := [8]) (by kernel_rfl) (by simp) ?_
                      refine AllReadyH.cons rfl (fun K hK => ?_) (AllReadyH.nil)
                      · skip
                        obtain ⟨v2, Y3, hr, hq9, hb9⟩ := r2.out.app hvl.out (hNd.out _ r2.out.b) hzn.out (by simp; omega)
                        replace hq9 := Lib.hid hq9
                        replace hb9 := Lib.hid hb9
                        first | refine step_app rfl (.tmp 62) (.tmp 67) 22 rfl rfl rfl hr ?_ | refine wp_app (.tmp 62) (.tmp 67) 22 rfl rfl rfl hr ?_
                        refine hK.out _ _ (hS4.out _ hb9.out) (fun hH3 => ?_)
                        clear hr
                        have r3 := hq9
                        clear hK K hq9 hb9 r2
                        try simp only [List.getElem_toArray, List.getElem_cons_succ, List.getElem_cons_zero, Act.put, List.setIfInBounds_toArray, List.set_cons_zero, List.set_cons_succ]
                        obtain ⟨k1, k2, _⟩ := r3.out.s _ rfl
                        obtain ⟨v3, Y4, hr, hq9, hb9⟩ := r3.out.app (l := [((j : Int) - (q : Int))]) rfl (ns_one k2) (fun h => by cases h) (by have := hvl.out; simp; omega)
                        have hb8 := Lib.hid hb9
                        have ho9 := hq9.o _ _ rfl
                        rw [List.nil_append, List.length_append, hvl.out, show [((j : Int) - (q : Int))].length = 1 from rfl] at ho9
                        obtain ⟨b9, c9, hv9, hN9, hz9⟩ := ns_of_ownsZ (v := v3) (l := v' ++ [((j : Int) - (q : Int))]) (n := vl + 1) (by rw [List.length_append, hvl.out]; rfl) ho9
                        subst hv9
                        replace hq9 := Lib.hid hq9
                        refine wpAnyH_ready (rs := [11]) (by kernel_rfl) (by simp) ?_
                        refine AllReadyH.cons rfl (fun K hK => ?_) ?_
                        rotate_left 1
                        · exact AllReadyH.nil
                        first | refine step_app rfl (.tmp 68) (.tmp 70) 22 rfl rfl rfl hr ?_ | refine wp_app (.tmp 68) (.tmp 70) 22 rfl rfl rfl hr ?_
                        refine hK.out _ _ (hS4.out _ hb9) (fun hH4 => ?_)
                        clear hK K hr k1 k2 r3
                        try simp only [List.getElem_toArray, List.getElem_cons_succ, List.getElem_cons_zero, Act.put, List.setIfInBounds_toArray, List.set_cons_zero, List.set_cons_succ]
                        have hbf : Hid (∀ y, b9 = some y → y.block < Y4.heap.size ∧ (Value.slice (some x) kk vc).ownBlock ≠ some y.block) := Lib.hid (fun y e => by
                          subst e
                          have h1 := ownFar ho9 (g := y.block) rfl
                          refine ⟨ownLt ho9 (g := y.block) rfl, fun e => ?_⟩
                          have h2 := hown0.out _ e
                          have h3 := hYs.out
                          omega)
                        have hW9 := Lib.hid (hfinW.out _ hb9)
                        replace hN9 := Lib.hid hN9
                        replace hz9 := Lib.hid hz9
                        have hszz := hb9.size
                        refine wpAnyH_take (i := 12) (v := ?_) rfl (by kernel_rfl) (by kernel_rfl) (by kernel_rfl) (fun _ _ _ h => h) (Or.inl ⟨by rfl, ?_⟩) (by assumption) ?_
                        rotate_left 1
                        · (intro w hSw; (try dsimp only at hSw); go_simp; all_goals with_reducible rfl)
                        try simp only [Act.put, List.setIfInBounds_toArray, List.set_cons_zero, List.set_cons_succ]
                        try simp only [List.getElem_toArray, List.getElem_cons_succ, List.getElem_cons_zero, Act.put, List.setIfInBounds_toArray, List.set_cons_zero, List.set_cons_succ]
                        refine wpAnyH_ready (rs := [13]) (by kernel_rfl) (by simp) ?_
                        refine AllReadyH.cons rfl (fun K hK => ?_) ?_
                        rotate_left 1
                        · exact AllReadyH.nil
                        go_simp
                        refine hK.out _ _ (hS4.out _ (below_alloc hb9 _)) (fun hHx => ?_)
                        clear hK K hHx
                        try simp only [List.getElem_toArray, List.getElem_cons_succ, List.getElem_cons_zero, Act.put, List.setIfInBounds_toArray, List.set_cons_zero, List.set_cons_succ]
                        refine wpAnyH_done (by kernel_rfl) ?_ _
                        show wpList _ _ _ _ _ _
                        generalize Y4 = U at *
                        clear hq9 hb9 hb8 ho9 hS4 hNd hfinW hown0 hHeld hH4
                        have o9 := hW9.out.o
                        rw [hn.out] at o9
                        go_wp2_with (first
                          | (at_builtin; refine wpList_append_own_at _ rfl (.tmp 60) (.tmp 73) 97 rfl X.heap.size 102 i0 (.agg #[.int .i64 0, .int .i64 0, .bool false, .slice none 0 0]) 4 48 Tryd.underlying97 hi hz0 hz1 hz2 rfl (by decide) _ _ _ rfl (o9.alloc _) ⟨U.heap.size, 0, none⟩ 1 1 [.int .i64 zp, .int .i64 (zt : Int), .bool zm, .slice b9 (vl + 1) c9] rfl rfl ?cv1 ?cv2 ?cv3 ?cv4 ?cv5 ?_)
                          | fail)
                        case cv2 => first | exact ⟨rfl, rfl, rfl, rfl⟩ | (intro u hu; simp at hu; rcases hu with rfl | rfl | rfl | rfl <;> rfl)
                        case cv3 => unfold maxLen; omega
                        case cv4 => omega
                        case cv5 => first | omega | (simp; omega)
                        intro v'' w4 hown' hgrow hnn hat
                        have hWn := hW9.out.more (y := ⟨zp, zt, zm⟩) (l := v' ++ [((j : Int) - (q : Int))]) (n := vl + 1) (by rw [List.length_append, hvl.out]; rfl) hN9.out hz9.out hbf.out (by rw [hn.out]; exact hown') hgrow hat
                        rw [← hnext.out] at hWn
                        obtain ⟨pp, cpp, rfl⟩ := ownForm hown'
                        replace hWn := Lib.hid hWn
                        clear hown' hgrow hnn hat hbf hN9 hz9 hW9 o9 hnext
                        go_wp2
                        go_roundw
                        case rel => exact ⟨j + 1, _, by omega, by go_num, hWn⟩
                        case measure => first | (simp [RowKit.intOf]; done) | (simp [RowKit.intOf]; omega) | omega
                  · skip
                    have hq9 := Lib.hid r0.out.box
                    have hb9 := Lib.hid hq9.out.b
                    go_simp
                    refine hK.out _ _ (hS4.out _ hb9.out) (fun hH1 => ?_)
                    generalize Y0.alloc (Obj.cells #[.int .i64 ((j : Int) - (q : Int))] 3) = Y1 at *
                    have r1 := hq9
                    clear hK K hq9 hb9 r0
                    try simp only [List.getElem_toArray, List.getElem_cons_succ, List.getElem_cons_zero, Act.put, List.setIfInBounds_toArray, List.set_cons_zero, List.set_cons_succ]
                    refine wpAnyH_ready (rs := [2]) (by kernel_rfl) (by simp) ?_
                    refine AllReadyH.cons rfl (fun K hK => ?_) (AllReadyH.nil)
                    · skip
                      have hq9 := Lib.hid r1.out.lit
                      have hb9 := Lib.hid hq9.out.b
                      go_simp
                      refine hK.out _ _ (hS4.out _ hb9.out) (fun hH2 => ?_)
                      generalize Y1.alloc (Obj.cells #[] 3) = Y2 at *
                      generalize hv9 : (Value.slice (some ⟨_, 0, none⟩) 0 0) = vA at *
                      clear hv9
                      have r2 := hq9
                      clear hK K hq9 hb9 r1
                      try simp only [List.getElem_toArray, List.getElem_cons_succ, List.getElem_cons_zero, Act.put, List.setIfInBounds_toArray, List.set_cons_zero, List.set_cons_succ]
                      refine wpAnyH_ready (rs := [8]) (by kernel_rfl) (by simp) ?_
                      refine AllReadyH.cons rfl (fun K hK => ?_) (AllReadyH.nil)
                      · skip
                        obtain ⟨v2, Y3, hr, hq9, hb9⟩ := r2.out.app hvl.out (hNd.out _ r2.out.b) hzn.out (by simp; omega)
                        replace hq9 := Lib.hid hq9
                        replace hb9 := Lib.hid hb9
                        first | refine step_app rfl (.tmp 62) (.tmp 67) 22 rfl rfl rfl hr ?_ | refine wp_app (.tmp 62) (.tmp 67) 22 rfl rfl rfl hr ?_
                        refine hK.out _ _ (hS4.out _ hb9.out) (fun hH3 => ?_)
                        clear hr
                        have r3 := hq9
                        clear hK K hq9 hb9 r2
                        try simp only [List.getElem_toArray, List.getElem_cons_succ, List.getElem_cons_zero, Act.put, List.setIfInBounds_toArray, List.set_cons_zero, List.set_cons_succ]
                        obtain ⟨k1, k2, _⟩ := r3.out.s _ rfl
                        obtain ⟨v3, Y4, hr, hq9, hb9⟩ := r3.out.app (l := [((j : Int) - (q : Int))]) rfl (ns_one k2) (fun h => by cases h) (by have := hvl.out; simp; omega)
                        have hb8 := Lib.hid hb9
                        have ho9 := hq9.o _ _ rfl
                        rw [List.nil_append, List.length_append, hvl.out, show [((j : Int) - (q : Int))].length = 1 from rfl] at ho9
                        obtain ⟨b9, c9, hv9, hN9, hz9⟩ := ns_of_ownsZ (v := v3) (l := v' ++ [((j : Int) - (q : Int))]) (n := vl + 1) (by rw [List.length_append, hvl.out]; rfl) ho9
                        subst hv9
                        replace hq9 := Lib.hid hq9
                        refine wpAnyH_ready (rs := [11]) (by kernel_rfl) (by simp) ?_
                        refine AllReadyH.cons rfl (fun K hK => ?_) ?_
                        rotate_left 1
                        · exact AllReadyH.nil
                        first | refine step_app rfl (.tmp 68) (.tmp 70) 22 rfl rfl rfl hr ?_ | refine wp_app (.tmp 68) (.tmp 70) 22 rfl rfl rfl hr ?_
                        refine hK.out _ _ (hS4.out _ hb9) (fun hH4 => ?_)
                        clear hK K hr k1 k2 r3
                        try simp only [List.getElem_toArray, List.getElem_cons_succ, List.getElem_cons_zero, Act.put, List.setIfInBounds_toArray, List.set_cons_zero, List.set_cons_succ]
                        have hbf : Hid (∀ y, b9 = some y → y.block < Y4.heap.size ∧ (Value.slice (some x) kk vc).ownBlock ≠ some y.block) := Lib.hid (fun y e => by
                          subst e
                          have h1 := ownFar ho9 (g := y.block) rfl
                          refine ⟨ownLt ho9 (g := y.block) rfl, fun e => ?_⟩
                          have h2 := hown0.out _ e
                          have h3 := hYs.out
                          omega)
                        have hW9 := Lib.hid (hfinW.out _ hb9)
                        replace hN9 := Lib.hid hN9
                        replace hz9 := Lib.hid hz9
                        have hszz := hb9.size
                        refine wpAnyH_take (i := 12) (v := ?_) rfl (by kernel_rfl) (by kernel_rfl) (by kernel_rfl) (fun _ _ _ h => h) (Or.inl ⟨by rfl, ?_⟩) (by assumption) ?_
                        rotate_left 1
                        · (intro w hSw; (try dsimp only at hSw); go_simp; all_goals with_reducible rfl)
                        try simp only [Act.put, List.setIfInBounds_toArray, List.set_cons_zero, List.set_cons_succ]
                        try simp only [List.getElem_toArray, List.getElem_cons_succ, List.getElem_cons_zero, Act.put, List.setIfInBounds_toArray, List.set_cons_zero, List.set_cons_succ]
                        refine wpAnyH_ready (rs := [13]) (by kernel_rfl) (by simp) ?_
                        refine AllReadyH.cons rfl (fun K hK => ?_) ?_
                        rotate_left 1
                        · exact AllReadyH.nil
                        go_simp
                        refine hK.out _ _ (hS4.out _ (below_alloc hb9 _)) (fun hHx => ?_)
                        clear hK K hHx
                        try simp only [List.getElem_toArray, List.getElem_cons_succ, List.getElem_cons_zero, Act.put, List.setIfInBounds_toArray, List.set_cons_zero, List.set_cons_succ]
                        refine wpAnyH_done (by kernel_rfl) ?_ _
                        show wpList _ _ _ _ _ _
                        generalize Y4 = U at *
                        clear hq9 hb9 hb8 ho9 hS4 hNd hfinW hown0 hHeld hH4
                        have o9 := hW9.out.o
                        rw [hn.out] at o9
                        go_wp2_with (first
                          | (at_builtin; refine wpList_append_own_at _ rfl (.tmp 60) (.tmp 73) 97 rfl X.heap.size 102 i0 (.agg #[.int .i64 0, .int .i64 0, .bool false, .slice none 0 0]) 4 48 Tryd.underlying97 hi hz0 hz1 hz2 rfl (by decide) _ _ _ rfl (o9.alloc _) ⟨U.heap.size, 0, none⟩ 1 1 [.int .i64 zp, .int .i64 (zt : Int), .bool zm, .slice b9 (vl + 1) c9] rfl rfl ?cw1 ?cw2 ?cw3 ?cw4 ?cw5 ?_)
                          | fail)
                        case cw2 => first | exact ⟨rfl, rfl, rfl, rfl⟩ | (intro u hu; simp at hu; rcases hu with rfl | rfl | rfl | rfl <;> rfl)
                        case cw3 => unfold maxLen; omega
                        case cw4 => omega
                        case cw5 => first | omega | (simp; omega)
                        intro v'' w4 hown' hgrow hnn hat
                        have hWn := hW9.out.more (y := ⟨zp, zt, zm⟩) (l := v' ++ [((j : Int) - (q : Int))]) (n := vl + 1) (by rw [List.length_append, hvl.out]; rfl) hN9.out hz9.out hbf.out (by rw [hn.out]; exact hown') hgrow hat
                        rw [← hnext.out] at hWn
                        obtain ⟨pp, cpp, rfl⟩ := ownForm hown'
                        replace hWn := Lib.hid hWn
                        clear hown' hgrow hnn hat hbf hN9 hz9 hW9 o9 hnext
                        go_wp2
                        go_roundw
                        case rel => exact ⟨j + 1, _, by omega, by go_num, hWn⟩
                        case measure => first | (simp [RowKit.intOf]; done) | (simp [RowKit.intOf]; omega) | omega
        · obtain rfl : j = 2 * q := by omega
          have hneg : ¬ (((2 * q : Nat) : Int) - (q : Int)) < (q : Int) := by omega
          have hall := Pl.inn_all L (⟨p', t', m'⟩, v') acc (j := 2 * q) (by omega)
          have hF2 := Lib.hid (hF.out.next hx.out)
          have hR2 := Lib.hid ((Pl.bfs_more (L := L) hx.out (by omega)).symm.trans hR.out)
          have hP2 := Lib.hid (Pl.Par.fold (Pl.stps L.length) acc hPr.out (List.mem_of_getElem? hx.out))
          rw [hall] at hW ⊢
          have hlt3 : k + 1 ≤ ((Pl.stps L.length).foldl (Pl.addS (Pl.adv L) (⟨p', t', m'⟩, v')) acc).length := by
            have h1 := (Pl.Bf.fold (Pl.stps L.length) acc (fun _ h => h) hF.out hx.out).2.1
            have := (List.getElem?_eq_some_iff.1 h1).1
            omega
          clear hB hBx hall hF hR z0 z1 hWy
          generalize ((Pl.stps L.length).foldl (Pl.addS (Pl.adv L) (⟨p', t', m'⟩, v')) acc) = acc2 at *
          go_wp2
          go_roundw
          case rel => exact ⟨k + 1, acc2, Z, hlt3, by go_num, hW, hF2, hR2, hP2⟩
          case measure => first | (simp [RowKit.intOf]; done) | (simp [RowKit.intOf]; omega) | omega
    · obtain rfl : k = acc.length := by omega
      have hi5 : ¬ ((acc.length : Nat) : Int) < ((acc.length : Nat) : Int) := by omega
      rw [Pl.bfs_done (Nat.le_refl _)] at hR
      have hfin : Hid (WaysAt wr a' (Pl.ways L p)) := Lib.hid (by rw [← hR.out]; exact hWy.out)
      have hlf : Hid (acc.length = (Pl.ways L p).length) := Lib.hid (by rw [hR.out])
      have hbz := hX.trans (hW.out.b.mono hX.size)
      clear hR hF hW hWy kk0 kk1 kk2
      go_wp2
      go_ret
      exact ⟨_, _, _, rfl, hlf, hfin, hbz⟩
end Go.Proofs.YtidcedilfhmllaaDoor
