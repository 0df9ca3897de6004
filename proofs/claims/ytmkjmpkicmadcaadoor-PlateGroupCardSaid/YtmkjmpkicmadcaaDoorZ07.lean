/- What the claims of layer 2 share, part 7: several texts one behind the other. -/
import Derived.Laws.AppendOwnNone
import Derived.Sort.QuietIn
import Derived.StillTail
import Derived.StillTailTactics
import Derived.Deep.RegionHeld3
import Derived.Lib.AppendZerosOnto
import Derived.Lib.SliceRun
import Derived.Lib.Walk
import Derived.Sort.OwnSortedInts
import Derived.Test.YtmkjmpkicmadcaaDoorZ06
set_option linter.unusedSimpArgs false
set_option linter.unusedVariables false
/- Contracts of package plate, for a valid shop and plate: Signs, Classes, Freedom, flat, Flat. -/
namespace Pl
theorem sg16_all : sg16 16 = all16 := by decide
theorem sgs_signs {L : List Wk} {p : Int} {f : St → Option (St × Int)} (h : AccF (ways L p) f) : sgs f p 16 = signs L p := by
  unfold sgs signs
  rw [sg16_all]
  congr 1
  funext g
  exact h.1 _
/-- a valid shop, and one of its plates -/
structure VS (s : Nat) (m : Int) (L : List Wk) (p : Int) : Prop where
  s1 : 1 ≤ s
  s6 : s ≤ 6
  m6 : m ≤ 6
  q : L.length ≤ 16
  ok : Ok m L
  p0 : 0 ≤ p
  pm : p < m
  c : cpl s m L p = 0
theorem vs_of {s : Nat} {m : Int} {L : List Wk} {p : Int} (h : cpl s m L p = 0) : VS s m L p := by
  obtain ⟨h1, h2⟩ := cpl_ok h
  obtain ⟨a, b, c, d⟩ := chk_ok h1
  unfold ix at h2
  simp only [Bool.and_eq_true, decide_eq_true_eq] at h2
  exact ⟨by omega, by omega, b.2, c, d, by omega, by omega, h⟩
theorem VS.sg {s : Nat} {m : Int} {L : List Wk} {p : Int} (h : VS s m L p) : ∀ g ∈ signs L p, g.1 < 8 := fun g hg => by
  unfold signs at hg
  exact (mem_all16 (t := g.1) (m := g.2)).1 (List.mem_filter.1 hg).1
theorem signs_len (L : List Wk) (p : Int) : (signs L p).length ≤ 16 := by
  unfold signs
  have := List.length_filter_le (fun g => decide ((⟨p, g.1, g.2⟩ : St) ∈ (ways L p).map Prod.fst)) all16
  have h : all16.length = 16 := by decide
  omega
end Pl
namespace Go.Proofs.YtmkjmpkicmadcaaDoor
open Go.RowKit

theorem sgCells_len (L : List (Nat × Bool)) : (sgCells L).length = L.length * 2 := by
  induction L with
  | nil => rfl
  | cons l r ih => unfold sgCells at *; rw [List.flatMap_cons, List.length_append, ih]; simp; omega
theorem sgCells_get : ∀ {L : List (Nat × Bool)} {k : Nat}, k < L.length → (sgCells L)[k * 2]? = some (.int .i64 ((L.getD k (0, false)).1 : Int)) ∧ (sgCells L)[k * 2 + 1]? = some (.bool (L.getD k (0, false)).2)
  | [], _, h => absurd h (by simp)
  | l :: r, 0, _ => ⟨rfl, rfl⟩
  | l :: r, k + 1, h => by
    have ih := sgCells_get (L := r) (k := k) (by simpa using h)
    have e : sgCells (l :: r) = .int .i64 (l.1 : Int) :: .bool l.2 :: sgCells r := rfl
    have e0 : (k + 1) * 2 = k * 2 + 1 + 1 := by omega
    rw [e, e0]
    simp only [List.getElem?_cons_succ]
    exact ⟨ih.1, ih.2⟩
theorem sgs_of_owns {w : World} {B : Nat} {v : Value} {G : List (Nat × Bool)} {n : Nat} (hn : G.length = n) (h : w.ownsRow B 38 2 v n (sgCells G)) : ∃ a cap, v = .slice a n cap ∧ SgsAt w a G := by
  obtain ⟨_, h2⟩ := h
  rcases h2 with ⟨hv, h0⟩ | ⟨g, cap, cur, hv, hb, hg, hle, hcm, hs, ht⟩
  · exact ⟨none, 0, by rw [hv, h0], fun k hk => by omega⟩
  · refine ⟨_, cap, hv, fun k hk => ⟨_, rfl, ?_⟩⟩
    have hc : ∀ j u, (sgCells G)[j]? = some u → w.cell? ⟨g, j, none⟩ = some u := by
      intro j u hu
      have hj : j < n * 2 := by rw [← hn, ← sgCells_len]; exact (List.getElem?_eq_some_iff.1 hu).1
      rw [← ht, List.getElem?_take_of_lt hj, Array.getElem?_toList] at hu
      simp [World.cell?, hg, hu]
    obtain ⟨g1, g2⟩ := sgCells_get hk
    have e : (⟨g, 0, none⟩ : Addr).add (k * 2) = ⟨g, k * 2, none⟩ := by unfold Addr.add; split <;> simp_all
    rw [e]
    exact ⟨hc _ _ g1, hc _ _ g2⟩

/-- a list of signs of one's own -/
structure SgO (X W : World) (v : Value) (G : List (Nat × Bool)) : Prop where
  o : W.ownsRow X.heap.size 38 2 v G.length (sgCells G)
  b : Below X.heap.size X W
theorem SgO.at {X W : World} {v : Value} {G : List (Nat × Bool)} (h : SgO X W v G) : ∃ a c, v = .slice a G.length c ∧ SgsAt W a G := sgs_of_owns rfl h.o

/-- signs, behind walksFrom -/
theorem signs_after {s : Nat} {m : Int} {L : List Pl.Wk} {p : Int} (hV : Pl.VS s m L p) {w1 : World} {a : Option Addr} {n cap mb : Nat} {f : Pl.St → Option (Pl.St × Int)} (hn : n = (Pl.ways L p).length) (hS : StsAt w1 a ((Pl.ways L p).map Prod.fst)) (hM : ∃ k, AM w1 mb k f) (hA : Pl.AccF (Pl.ways L p) f) (W : World) (hb : Below w1.heap.size w1 W) :
    Calls Tryd.prog 50 #[.agg #[.slice a n cap, .map (some mb)]] W fun e W' => ∃ v, e = .returned v ∧ Hid (SgO W W' v (Pl.signs L p)) := by
  have h0 := (Pl.ways_ok hV.m6 hV.ok ⟨hV.p0, hV.pm⟩).hd
  have hl := (List.getElem?_eq_some_iff.1 h0).1
  obtain ⟨x, rfl, hx, _⟩ := hS 0 (Pl.start p) (by rw [List.getElem?_map, h0]; rfl)
  have hxe : x.add (0 * 3) = x := by unfold Addr.add; simp
  rw [hxe] at hx
  obtain ⟨k, hM⟩ := hM
  refine (pSignsW_any x n cap mb k (by omega) f p ⟨hV.p0, by have := hV.pm; have := hV.m6; omega⟩ W (kept1 hx hb) (hM.below hb)).mono ?_
  rintro e W' ⟨v, rfl, ho, hb2⟩
  rw [Pl.sgs_signs hA] at ho
  exact ⟨v, rfl, Lib.hid ⟨ho.out, hb2⟩⟩

theorem cp_ok {s : Nat} {m : Int} {L : List Pl.Wk} {p : Int} (hV : Pl.VS s m L p) {a : Option Addr} {q cap : Nat} (hq : L.length = q) {w : World} (hL : Hid (WksAt w a L)) (W : World) (hb : Below w.heap.size w W) :
    Calls Tryd.prog 39 #[.agg #[.int .i64 (s : Int), .int .i64 m, .slice a q cap], .int .i64 p] W fun e w' => e = .returned (.int .i64 0) ∧ Below W.heap.size W w' := by
  subst hq
  have h := checkPlate_any (s : Int) m a cap L p W (Lib.hid (hL.out.below hb))
  have hc : (if Pl.chk s m L ≠ 0 then Pl.chk s m L else if Pl.ix p m then 0 else 1) = 0 := hV.c
  rw [hc] at h
  exact h
theorem wf_ok {s : Nat} {m : Int} {L : List Pl.Wk} {p : Int} (hV : Pl.VS s m L p) {a : Option Addr} {q cap : Nat} (hq : L.length = q) {w : World} (hL : Hid (WksAt w a L)) (W : World) (hb : Below w.heap.size w W) :
    Calls Tryd.prog 49 #[.agg #[.int .i64 (s : Int), .int .i64 m, .slice a q cap], .int .i64 p] W (WaPost W L p) :=
  walksFrom_any (s : Int) m hV.m6 a q cap L hq (by have := hV.q; omega) (Lib.hid hV.ok) p ⟨hV.p0, hV.pm⟩ W (Lib.hid (hL.out.below hb))

set_option maxRecDepth 100000 in
set_option maxHeartbeats 2000000 in
/-- Signs -/
theorem pSigns_ok (s : Nat) (m : Int) (a : Option Addr) (q cap : Nat) (L : List Pl.Wk) (hq : L.length = q) (p : Int) (hV : Pl.VS s m L p) (w : World) (hL : Hid (WksAt w a L)) :
    Calls Tryd.prog 28 #[.agg #[.int .i64 (s : Int), .int .i64 m, .slice a q cap], .int .i64 p] w fun e w' => ∃ v, e = .returned (.tuple #[v, .int .i64 0]) ∧ Hid (SgO w w' v (Pl.signs L p)) := by
  have HC := Lib.hid (cp_ok hV (cap := cap) hq hL)
  have HW := Lib.hid (wf_ok hV (cap := cap) hq hL)
  go_enter Tryd.func28, Tryd.ntmps28
  go_wp2_with fail
  refine (HC.out _ (by repeat (first | with_reducible exact Below.refl _ _ | with_reducible assumption | refine below_drewN ?_ _ | refine Below.drew ?_ | refine Below.alloc ?_ (by first | (simp; done) | (simp; omega) | omega) _ | refine Below.setCell ?_ (by first | (simp; done) | (simp; omega) | omega) _ | refine Below.trans ?_ (Below.mono (by assumption) (by first | (simp; done) | (simp; omega) | omega))))).mono ?_
  rintro e w1 ⟨rfl, hb1⟩
  have k0 : w1.cell? ⟨w.heap.size, 0, none⟩ = some (.int .i64 (s : Int)) := kept1 (by simp [go_sem]) hb1
  have k1 : w1.cell? ⟨w.heap.size, 1, none⟩ = some (.int .i64 m) := kept1 (by simp [go_sem]) hb1
  have k2 : w1.cell? ⟨w.heap.size, 2, none⟩ = some (.slice a q cap) := kept1 (by simp [go_sem]) hb1
  have hbw : Below w.heap.size w w1 := (by repeat (first | with_reducible exact Below.refl _ _ | with_reducible assumption | refine below_drewN ?_ _ | refine Below.drew ?_ | refine Below.alloc ?_ (by first | (simp; done) | (simp; omega) | omega) _ | refine Below.setCell ?_ (by first | (simp; done) | (simp; omega) | omega) _ | refine Below.trans ?_ (Below.mono (by assumption) (by first | (simp; done) | (simp; omega) | omega))))
  clear hb1 HC
  go_wp2_with fail
  refine (HW.out _ hbw).mono ?_
  rintro e w2 ⟨a1, n1, c1, mb, f, rfl, hn1, hS, hM, hA, hb2⟩
  have HS2 := Lib.hid (signs_after hV hn1 hS.out hM.out hA.out (cap := c1) w2 (Below.refl _ _))
  have hbw2 := hbw.trans (hb2.mono hbw.size)
  clear hn1 hS hM hA hb2 HW hbw
  go_wp2_with fail
  refine HS2.out.mono ?_
  rintro e w3 ⟨v, rfl, hO⟩
  have hf : Hid (SgO w w3 v (Pl.signs L p)) := Lib.hid ⟨ownBase hO.out.o hbw2.size, hbw2.trans (hO.out.b.mono hbw2.size)⟩
  clear hO HS2
  go_wp2
  go_ret2
  exact ⟨v, rfl, hf⟩

set_option maxRecDepth 100000 in
set_option maxHeartbeats 4000000 in
/-- flat -/
theorem flat_ok (s : Nat) (m : Int) (a : Option Addr) (q cap : Nat) (L : List Pl.Wk) (hq : L.length = q) (p : Int) (hV : Pl.VS s m L p) (w : World) (hL : Hid (WksAt w a L)) :
    Calls Tryd.prog 58 #[.agg #[.int .i64 (s : Int), .int .i64 m, .slice a q cap], .int .i64 p] w fun e w' => e = .returned (.bool (Pl.frd s (Pl.signs L p) == 0)) ∧ Below w.heap.size w w' := by
  have HW := Lib.hid (wf_ok hV (cap := cap) hq hL)
  have hsl := Pl.signs_len L p
  have HF := Lib.hid (fun (W : World) (a3 : Option Addr) (c3 : Nat) (hG : Hid (SgsAt W a3 (Pl.signs L p))) => freedom_any s hV.s1 hV.s6 a3 (Pl.signs L p).length c3 (Pl.signs L p) (Lib.hid rfl) (by omega) (Lib.hid hV.sg) W hG)
  go_enter Tryd.func58, Tryd.ntmps58
  go_upto_region 1 with fail
  have k0 : (w.alloc (Obj.cells #[.int .i64 (s : Int), .int .i64 m, .slice a q cap] 34)).cell? ⟨w.heap.size, 0, none⟩ = some (.int .i64 (s : Int)) := by simp [go_sem]
  have k1 : (w.alloc (Obj.cells #[.int .i64 (s : Int), .int .i64 m, .slice a q cap] 34)).cell? ⟨w.heap.size, 1, none⟩ = some (.int .i64 m) := by simp [go_sem]
  have k2 : (w.alloc (Obj.cells #[.int .i64 (s : Int), .int .i64 m, .slice a q cap] 34)).cell? ⟨w.heap.size, 2, none⟩ = some (.slice a q cap) := by simp [go_sem]
  have hbX : Below w.heap.size w (w.alloc (Obj.cells #[.int .i64 (s : Int), .int .i64 m, .slice a q cap] 34)) := below_alloc (Below.refl _ _) _
  generalize w.alloc (Obj.cells #[.int .i64 (s : Int), .int .i64 m, .slice a q cap] 34) = X at *

  have S0 : X.drew.cell? ⟨w.heap.size, 0, none⟩ = some (.int .i64 (s : Int)) ∧ X.drew.cell? ⟨w.heap.size, 1, none⟩ = some (.int .i64 m) ∧ X.drew.cell? ⟨w.heap.size, 2, none⟩ = some (.slice a q cap) := ⟨k0, k1, k2⟩
  refine region_head_held 6 (fun w' => w'.cell? ⟨w.heap.size, 0, none⟩ = some (.int .i64 (s : Int)) ∧ w'.cell? ⟨w.heap.size, 1, none⟩ = some (.int .i64 m) ∧ w'.cell? ⟨w.heap.size, 2, none⟩ = some (.slice a q cap)) (by kernel_rfl) (by kernel_rfl) S0 (fun hHeld => ?_)
  simp only [List.take_succ_cons, List.take_zero, List.drop_succ_cons, List.drop_zero]
  refine wpAnyH_take (i := 0) (v := ?_) rfl (by kernel_rfl) (by kernel_rfl) (by kernel_rfl) (fun _ _ _ h => h) (Or.inl ⟨by rfl, ?_⟩) (by assumption) ?_
  rotate_left 1
  · (intro w hSw; (try dsimp only at hSw); go_simp; all_goals with_reducible rfl)
  try simp only [Act.put, List.setIfInBounds_toArray, List.set_cons_zero, List.set_cons_succ]
  refine wpAnyH_take (i := 1) (v := ?_) rfl (by kernel_rfl) (by kernel_rfl) (by kernel_rfl) (fun _ _ _ h => h) (Or.inl ⟨by rfl, ?_⟩) (by assumption) ?_
  rotate_left 1
  · (intro w hSw; (try dsimp only at hSw); go_simp; all_goals with_reducible rfl)
  try simp only [Act.put, List.setIfInBounds_toArray, List.set_cons_zero, List.set_cons_succ]
  refine wpAnyH_take (i := 2) (v := ?_) rfl (by kernel_rfl) (by kernel_rfl) (by kernel_rfl) (fun _ _ _ h => h) (Or.inl ⟨by rfl, ?_⟩) (by assumption) ?_
  rotate_left 1
  · (intro w hSw; (try dsimp only at hSw); go_simp; all_goals with_reducible rfl)
  try simp only [Act.put, List.setIfInBounds_toArray, List.set_cons_zero, List.set_cons_succ]
  refine wpAnyH_take (i := 3) (v := ?_) rfl (by kernel_rfl) (by kernel_rfl) (by kernel_rfl) (fun _ _ _ h => h) (Or.inl ⟨by rfl, ?_⟩) (by assumption) ?_
  rotate_left 1
  · (intro w hSw; (try dsimp only at hSw); go_simp; all_goals with_reducible rfl)
  try simp only [Act.put, List.setIfInBounds_toArray, List.set_cons_zero, List.set_cons_succ]
  simp only [List.getElem_toArray, List.getElem_cons_succ, List.getElem_cons_zero, Act.put, List.setIfInBounds_toArray, List.set_cons_zero, List.set_cons_succ]
  have HWd := Lib.hid (HW.out X.drew hbX.drew)
  refine wpAnyH_ready (rs := [4]) (by kernel_rfl) (by simp) ?_
  refine AllReadyH.cons rfl (fun K hK => ?_) ?_
  rotate_left 1
  · exact AllReadyH.nil
  go_simp
  with_reducible refine (HWd.out).mono ?_
  rintro e w2 ⟨a1, n1, c1, mb, f, he, hn1, hS, hM, hA, hb2⟩
  subst he
  have S2 : w2.cell? ⟨w.heap.size, 0, none⟩ = some (.int .i64 (s : Int)) ∧ w2.cell? ⟨w.heap.size, 1, none⟩ = some (.int .i64 m) ∧ w2.cell? ⟨w.heap.size, 2, none⟩ = some (.slice a q cap) := ⟨kept1 hHeld.1 hb2, kept1 hHeld.2.1 hb2, kept1 hHeld.2.2 hb2⟩
  refine hK.out _ _ S2 (fun hHeld2 => ?_)
  clear hK K
  try simp only [List.getElem_toArray, List.getElem_cons_succ, List.getElem_cons_zero, Act.put, List.setIfInBounds_toArray, List.set_cons_zero, List.set_cons_succ]
  have HS2 := Lib.hid (signs_after hV hn1 hS.out hM.out hA.out (cap := c1) w2 (Below.refl _ _))
  have hbw2 : Below w.heap.size w w2 := Below.trans hbX.drew (hb2.mono (Below.size hbX.drew))
  clear hn1 hS hM hA hb2 HW HWd
  refine wpAnyH_ready (rs := [5]) (by kernel_rfl) (by simp) ?_
  refine AllReadyH.cons rfl (fun K hK => ?_) ?_
  rotate_left 1
  · exact AllReadyH.nil
  go_simp
  with_reducible refine (HS2.out).mono ?_
  rintro e w3 ⟨v, he, hO⟩
  subst he
  have S3 : w3.cell? ⟨w.heap.size, 0, none⟩ = some (.int .i64 (s : Int)) ∧ w3.cell? ⟨w.heap.size, 1, none⟩ = some (.int .i64 m) ∧ w3.cell? ⟨w.heap.size, 2, none⟩ = some (.slice a q cap) := ⟨kept1 S2.1 hO.out.b, kept1 S2.2.1 hO.out.b, kept1 S2.2.2 hO.out.b⟩
  refine hK.out _ _ S3 (fun hHeld3 => ?_)
  clear hK K HS2
  try simp only [List.getElem_toArray, List.getElem_cons_succ, List.getElem_cons_zero, Act.put, List.setIfInBounds_toArray, List.set_cons_zero, List.set_cons_succ]
  obtain ⟨a3, c3, rfl, hG⟩ := hO.out.at
  have hbw3 : Below w.heap.size w w3 := hbw2.trans (hO.out.b.mono hbw2.size)
  replace hG := Lib.hid hG
  clear hO hHeld hHeld2 hbw2
  refine wpAnyH_done (by kernel_rfl) ?_ _
  show wpList _ _ _ _ _ _
  go_wp2_with fail
  refine (HF.out w3 a3 c3 hG).mono ?_
  rintro e w4 ⟨rfl, hb4⟩
  have hbf := hbw3.trans (hb4.mono hbw3.size)
  go_wp2
  go_ret
  exact ⟨rfl, hbf⟩
end Go.Proofs.YtmkjmpkicmadcaaDoor

/- Contracts of package plate, for a valid shop and plate: Freedom, Flat, Classes. -/
namespace Go.Proofs.YtmkjmpkicmadcaaDoor
open Go.RowKit

set_option maxRecDepth 100000 in
set_option maxHeartbeats 4000000 in
theorem pFlat_ok (s : Nat) (m : Int) (a : Option Addr) (q cap : Nat) (L : List Pl.Wk) (hq : L.length = q) (p : Int) (hV : Pl.VS s m L p) (w : World) (hL : Hid (WksAt w a L)) :
    Calls Tryd.prog 33 #[.agg #[.int .i64 (s : Int), .int .i64 m, .slice a q cap], .int .i64 p] w fun e w' => e = .returned (.tuple #[.bool (Pl.frd s (Pl.signs L p) == 0), .int .i64 0]) ∧ Below w.heap.size w w' := by
  have HC := Lib.hid (cp_ok hV (cap := cap) hq hL)
  have HF := Lib.hid (fun (W : World) (hb : Below w.heap.size w W) => flat_ok s m a q cap L hq p hV W (Lib.hid (hL.out.below hb)))
  go_enter Tryd.func33, Tryd.ntmps33
  go_wp2_with fail
  refine (HC.out _ (by repeat (first | with_reducible exact Below.refl _ _ | with_reducible assumption | refine below_drewN ?_ _ | refine Below.drew ?_ | refine Below.alloc ?_ (by first | (simp; done) | (simp; omega) | omega) _ | refine Below.setCell ?_ (by first | (simp; done) | (simp; omega) | omega) _ | refine Below.trans ?_ (Below.mono (by assumption) (by first | (simp; done) | (simp; omega) | omega))))).mono ?_
  rintro e w1 ⟨rfl, hb1⟩
  have k0 : w1.cell? ⟨w.heap.size, 0, none⟩ = some (.int .i64 (s : Int)) := kept1 (by simp [go_sem]) hb1
  have k1 : w1.cell? ⟨w.heap.size, 1, none⟩ = some (.int .i64 m) := kept1 (by simp [go_sem]) hb1
  have k2 : w1.cell? ⟨w.heap.size, 2, none⟩ = some (.slice a q cap) := kept1 (by simp [go_sem]) hb1
  have hbw : Below w.heap.size w w1 := (by repeat (first | with_reducible exact Below.refl _ _ | with_reducible assumption | refine below_drewN ?_ _ | refine Below.drew ?_ | refine Below.alloc ?_ (by first | (simp; done) | (simp; omega) | omega) _ | refine Below.setCell ?_ (by first | (simp; done) | (simp; omega) | omega) _ | refine Below.trans ?_ (Below.mono (by assumption) (by first | (simp; done) | (simp; omega) | omega))))
  clear hb1 HC
  go_wp2_with fail
  refine (HF.out _ hbw).mono ?_
  rintro e w2 ⟨rfl, hb2⟩
  have hbf := hbw.trans (hb2.mono hbw.size)
  go_wp2
  go_ret2
  exact ⟨rfl, hbf⟩

set_option maxRecDepth 100000 in
set_option maxHeartbeats 4000000 in
theorem pFreedom_ok (s : Nat) (m : Int) (a : Option Addr) (q cap : Nat) (L : List Pl.Wk) (hq : L.length = q) (p : Int) (hV : Pl.VS s m L p) (w : World) (hL : Hid (WksAt w a L)) :
    Calls Tryd.prog 30 #[.agg #[.int .i64 (s : Int), .int .i64 m, .slice a q cap], .int .i64 p] w fun e w' => e = .returned (.tuple #[.int .i64 (Pl.frd s (Pl.signs L p)), .int .i64 0]) ∧ Below w.heap.size w w' := by
  have HC := Lib.hid (cp_ok hV (cap := cap) hq hL)
  have HW := Lib.hid (wf_ok hV (cap := cap) hq hL)
  have hsl := Pl.signs_len L p
  have HF := Lib.hid (fun (W : World) (a3 : Option Addr) (c3 : Nat) (hG : Hid (SgsAt W a3 (Pl.signs L p))) => freedom_any s hV.s1 hV.s6 a3 (Pl.signs L p).length c3 (Pl.signs L p) (Lib.hid rfl) (by omega) (Lib.hid hV.sg) W hG)
  go_enter Tryd.func30, Tryd.ntmps30
  go_wp2_with fail
  refine (HC.out _ (by repeat (first | with_reducible exact Below.refl _ _ | with_reducible assumption | refine below_drewN ?_ _ | refine Below.drew ?_ | refine Below.alloc ?_ (by first | (simp; done) | (simp; omega) | omega) _ | refine Below.setCell ?_ (by first | (simp; done) | (simp; omega) | omega) _ | refine Below.trans ?_ (Below.mono (by assumption) (by first | (simp; done) | (simp; omega) | omega))))).mono ?_
  rintro e w1 ⟨rfl, hb1⟩
  have k0 : w1.cell? ⟨w.heap.size, 0, none⟩ = some (.int .i64 (s : Int)) := kept1 (by simp [go_sem]) hb1
  have k1 : w1.cell? ⟨w.heap.size, 1, none⟩ = some (.int .i64 m) := kept1 (by simp [go_sem]) hb1
  have k2 : w1.cell? ⟨w.heap.size, 2, none⟩ = some (.slice a q cap) := kept1 (by simp [go_sem]) hb1
  have hbw : Below w.heap.size w w1 := (by repeat (first | with_reducible exact Below.refl _ _ | with_reducible assumption | refine below_drewN ?_ _ | refine Below.drew ?_ | refine Below.alloc ?_ (by first | (simp; done) | (simp; omega) | omega) _ | refine Below.setCell ?_ (by first | (simp; done) | (simp; omega) | omega) _ | refine Below.trans ?_ (Below.mono (by assumption) (by first | (simp; done) | (simp; omega) | omega))))
  clear hb1 HC
  go_upto_region 4 with fail
  have S0 : w1.drew.cell? ⟨w.heap.size, 0, none⟩ = some (.int .i64 (s : Int)) ∧ w1.drew.cell? ⟨w.heap.size, 1, none⟩ = some (.int .i64 m) ∧ w1.drew.cell? ⟨w.heap.size, 2, none⟩ = some (.slice a q cap) := ⟨k0, k1, k2⟩
  refine region_head_held 8 (fun w' => w'.cell? ⟨w.heap.size, 0, none⟩ = some (.int .i64 (s : Int)) ∧ w'.cell? ⟨w.heap.size, 1, none⟩ = some (.int .i64 m) ∧ w'.cell? ⟨w.heap.size, 2, none⟩ = some (.slice a q cap)) (by kernel_rfl) (by kernel_rfl) S0 (fun hHeld => ?_)
  simp only [List.take_succ_cons, List.take_zero, List.drop_succ_cons, List.drop_zero]
  refine wpAnyH_take (i := 0) (v := ?_) rfl (by kernel_rfl) (by kernel_rfl) (by kernel_rfl) (fun _ _ _ h => h) (Or.inl ⟨by rfl, ?_⟩) (by assumption) ?_
  rotate_left 1
  · (intro w hSw; (try dsimp only at hSw); go_simp; all_goals with_reducible rfl)
  try simp only [Act.put, List.setIfInBounds_toArray, List.set_cons_zero, List.set_cons_succ]
  refine wpAnyH_take (i := 1) (v := ?_) rfl (by kernel_rfl) (by kernel_rfl) (by kernel_rfl) (fun _ _ _ h => h) (Or.inl ⟨by rfl, ?_⟩) (by assumption) ?_
  rotate_left 1
  · (intro w hSw; (try dsimp only at hSw); go_simp; all_goals with_reducible rfl)
  try simp only [Act.put, List.setIfInBounds_toArray, List.set_cons_zero, List.set_cons_succ]
  refine wpAnyH_take (i := 2) (v := ?_) rfl (by kernel_rfl) (by kernel_rfl) (by kernel_rfl) (fun _ _ _ h => h) (Or.inl ⟨by rfl, ?_⟩) (by assumption) ?_
  rotate_left 1
  · (intro w hSw; (try dsimp only at hSw); go_simp; all_goals with_reducible rfl)
  try simp only [Act.put, List.setIfInBounds_toArray, List.set_cons_zero, List.set_cons_succ]
  refine wpAnyH_take (i := 3) (v := ?_) rfl (by kernel_rfl) (by kernel_rfl) (by kernel_rfl) (fun _ _ _ h => h) (Or.inl ⟨by rfl, ?_⟩) (by assumption) ?_
  rotate_left 1
  · (intro w hSw; (try dsimp only at hSw); go_simp; all_goals with_reducible rfl)
  try simp only [Act.put, List.setIfInBounds_toArray, List.set_cons_zero, List.set_cons_succ]
  simp only [List.getElem_toArray, List.getElem_cons_succ, List.getElem_cons_zero, Act.put, List.setIfInBounds_toArray, List.set_cons_zero, List.set_cons_succ]
  have HWd := Lib.hid (HW.out w1.drew hbw.drew)
  refine wpAnyH_ready (rs := [4]) (by kernel_rfl) (by simp) ?_
  refine AllReadyH.cons rfl (fun K hK => ?_) ?_
  rotate_left 1
  · exact AllReadyH.nil
  go_simp
  with_reducible refine (HWd.out).mono ?_
  rintro e w2 ⟨a1, n1, c1, mb, f, he, hn1, hS, hM, hA, hb2⟩
  subst he
  have S2 : w2.cell? ⟨w.heap.size, 0, none⟩ = some (.int .i64 (s : Int)) ∧ w2.cell? ⟨w.heap.size, 1, none⟩ = some (.int .i64 m) ∧ w2.cell? ⟨w.heap.size, 2, none⟩ = some (.slice a q cap) := ⟨kept1 hHeld.1 hb2, kept1 hHeld.2.1 hb2, kept1 hHeld.2.2 hb2⟩
  refine hK.out _ _ S2 (fun hHeld2 => ?_)
  clear hK K
  try simp only [List.getElem_toArray, List.getElem_cons_succ, List.getElem_cons_zero, Act.put, List.setIfInBounds_toArray, List.set_cons_zero, List.set_cons_succ]
  have HS2 := Lib.hid (signs_after hV hn1 hS.out hM.out hA.out (cap := c1) w2 (Below.refl _ _))
  have hbw2 : Below w.heap.size w w2 := Below.trans hbw.drew (hb2.mono (Below.size hbw.drew))
  clear hn1 hS hM hA hb2 HW HWd
  refine wpAnyH_ready (rs := [5]) (by kernel_rfl) (by simp) ?_
  refine AllReadyH.cons rfl (fun K hK => ?_) ?_
  rotate_left 1
  · exact AllReadyH.nil
  go_simp
  with_reducible refine (HS2.out).mono ?_
  rintro e w3 ⟨v, he, hO⟩
  subst he
  have S3 : w3.cell? ⟨w.heap.size, 0, none⟩ = some (.int .i64 (s : Int)) ∧ w3.cell? ⟨w.heap.size, 1, none⟩ = some (.int .i64 m) ∧ w3.cell? ⟨w.heap.size, 2, none⟩ = some (.slice a q cap) := ⟨kept1 S2.1 hO.out.b, kept1 S2.2.1 hO.out.b, kept1 S2.2.2 hO.out.b⟩
  refine hK.out _ _ S3 (fun hHeld3 => ?_)
  clear hK K HS2
  try simp only [List.getElem_toArray, List.getElem_cons_succ, List.getElem_cons_zero, Act.put, List.setIfInBounds_toArray, List.set_cons_zero, List.set_cons_succ]
  obtain ⟨a3, c3, rfl, hG⟩ := hO.out.at
  have hbw3 : Below w.heap.size w w3 := hbw2.trans (hO.out.b.mono hbw2.size)
  replace hG := Lib.hid hG
  clear hO hHeld hHeld2 hbw2
  refine wpAnyH_ready (rs := [6]) (by kernel_rfl) (by simp) ?_
  refine AllReadyH.cons rfl (fun K hK => ?_) ?_
  rotate_left 1
  · exact AllReadyH.nil
  go_simp
  with_reducible refine (HF.out w3 a3 c3 hG).mono ?_
  rintro e w4 ⟨he, hb4⟩
  subst he
  have S4 : w4.cell? ⟨w.heap.size, 0, none⟩ = some (.int .i64 (s : Int)) ∧ w4.cell? ⟨w.heap.size, 1, none⟩ = some (.int .i64 m) ∧ w4.cell? ⟨w.heap.size, 2, none⟩ = some (.slice a q cap) := ⟨kept1 S3.1 hb4, kept1 S3.2.1 hb4, kept1 S3.2.2 hb4⟩
  refine hK.out _ _ S4 (fun hHeld4 => ?_)
  clear hK K HF
  try simp only [List.getElem_toArray, List.getElem_cons_succ, List.getElem_cons_zero, Act.put, List.setIfInBounds_toArray, List.set_cons_zero, List.set_cons_succ]
  refine wpAnyH_take (i := 7) (v := ?_) rfl (by kernel_rfl) (by kernel_rfl) (by kernel_rfl) (fun _ _ _ h => h) (Or.inl ⟨by rfl, ?_⟩) (by assumption) ?_
  rotate_left 1
  · (intro w hSw; (try dsimp only at hSw); go_simp; all_goals with_reducible rfl)
  try simp only [Act.put, List.setIfInBounds_toArray, List.set_cons_zero, List.set_cons_succ]
  simp only [List.getElem_toArray, List.getElem_cons_succ, List.getElem_cons_zero, Act.put, List.setIfInBounds_toArray, List.set_cons_zero, List.set_cons_succ]
  refine wpAnyH_done (by kernel_rfl) ?_ _
  show wpList _ _ _ _ _ _
  have hbf := hbw3.trans (hb4.mono hbw3.size)
  clear S0 S2 S3 S4 hHeld3 hHeld4
  go_wp2
  go_ret2
  exact ⟨rfl, hbf⟩

set_option maxRecDepth 100000 in
set_option maxHeartbeats 4000000 in
theorem pClasses_ok (s : Nat) (m : Int) (a : Option Addr) (q cap : Nat) (L : List Pl.Wk) (hq : L.length = q) (p : Int) (hV : Pl.VS s m L p) (w : World) (hL : Hid (WksAt w a L)) :
    Calls Tryd.prog 29 #[.agg #[.int .i64 (s : Int), .int .i64 m, .slice a q cap], .int .i64 p] w fun e w' => ∃ lb wb cl cw, e = .returned (.tuple #[.slice (some ⟨lb, 0, none⟩) (s * s) cl, .slice (some ⟨wb, 0, none⟩) (s * s) cw, .int .i64 0]) ∧ Hid (RowF w' lb (s * s) fun k => (Pl.lsF (Pl.clsL s (Pl.signs L p)).1 k : Int)) ∧ Hid (RowF w' wb (s * s) (Pl.wsF (Pl.clsL s (Pl.signs L p)).2)) ∧ Below w.heap.size w w' := by
  have HC := Lib.hid (cp_ok hV (cap := cap) hq hL)
  have HW := Lib.hid (wf_ok hV (cap := cap) hq hL)
  have hsl := Pl.signs_len L p
  have HF := Lib.hid (fun (W : World) (a3 : Option Addr) (c3 : Nat) (hG : Hid (SgsAt W a3 (Pl.signs L p))) => classes_any s hV.s1 hV.s6 a3 (Pl.signs L p).length c3 (Pl.signs L p) (Lib.hid rfl) (by omega) (Lib.hid hV.sg) W hG)
  obtain ⟨N, hN⟩ : ∃ N, s * s = N := ⟨_, rfl⟩
  rw [hN] at HF
  rw [hN]
  clear hN
  go_enter Tryd.func29, Tryd.ntmps29
  go_wp2_with fail
  refine (HC.out _ (by repeat (first | with_reducible exact Below.refl _ _ | with_reducible assumption | refine below_drewN ?_ _ | refine Below.drew ?_ | refine Below.alloc ?_ (by first | (simp; done) | (simp; omega) | omega) _ | refine Below.setCell ?_ (by first | (simp; done) | (simp; omega) | omega) _ | refine Below.trans ?_ (Below.mono (by assumption) (by first | (simp; done) | (simp; omega) | omega))))).mono ?_
  rintro e w1 ⟨rfl, hb1⟩
  have k0 : w1.cell? ⟨w.heap.size, 0, none⟩ = some (.int .i64 (s : Int)) := kept1 (by simp [go_sem]) hb1
  have k1 : w1.cell? ⟨w.heap.size, 1, none⟩ = some (.int .i64 m) := kept1 (by simp [go_sem]) hb1
  have k2 : w1.cell? ⟨w.heap.size, 2, none⟩ = some (.slice a q cap) := kept1 (by simp [go_sem]) hb1
  have hbw : Below w.heap.size w w1 := (by repeat (first | with_reducible exact Below.refl _ _ | with_reducible assumption | refine below_drewN ?_ _ | refine Below.drew ?_ | refine Below.alloc ?_ (by first | (simp; done) | (simp; omega) | omega) _ | refine Below.setCell ?_ (by first | (simp; done) | (simp; omega) | omega) _ | refine Below.trans ?_ (Below.mono (by assumption) (by first | (simp; done) | (simp; omega) | omega))))
  clear hb1 HC
  go_upto_region 4 with fail
  have S0 : w1.drew.cell? ⟨w.heap.size, 0, none⟩ = some (.int .i64 (s : Int)) ∧ w1.drew.cell? ⟨w.heap.size, 1, none⟩ = some (.int .i64 m) ∧ w1.drew.cell? ⟨w.heap.size, 2, none⟩ = some (.slice a q cap) := ⟨k0, k1, k2⟩
  refine region_head_held 11 (fun w' => w'.cell? ⟨w.heap.size, 0, none⟩ = some (.int .i64 (s : Int)) ∧ w'.cell? ⟨w.heap.size, 1, none⟩ = some (.int .i64 m) ∧ w'.cell? ⟨w.heap.size, 2, none⟩ = some (.slice a q cap)) (by kernel_rfl) (by kernel_rfl) S0 (fun hHeld => ?_)
  simp only [List.take_succ_cons, List.take_zero, List.drop_succ_cons, List.drop_zero]
  refine wpAnyH_take (i := 0) (v := ?_) rfl (by kernel_rfl) (by kernel_rfl) (by kernel_rfl) (fun _ _ _ h => h) (Or.inl ⟨by rfl, ?_⟩) (by assumption) ?_
  rotate_left 1
  · (intro w hSw; (try dsimp only at hSw); go_simp; all_goals with_reducible rfl)
  try simp only [Act.put, List.setIfInBounds_toArray, List.set_cons_zero, List.set_cons_succ]
  refine wpAnyH_take (i := 1) (v := ?_) rfl (by kernel_rfl) (by kernel_rfl) (by kernel_rfl) (fun _ _ _ h => h) (Or.inl ⟨by rfl, ?_⟩) (by assumption) ?_
  rotate_left 1
  · (intro w hSw; (try dsimp only at hSw); go_simp; all_goals with_reducible rfl)
  try simp only [Act.put, List.setIfInBounds_toArray, List.set_cons_zero, List.set_cons_succ]
  refine wpAnyH_take (i := 2) (v := ?_) rfl (by kernel_rfl) (by kernel_rfl) (by kernel_rfl) (fun _ _ _ h => h) (Or.inl ⟨by rfl, ?_⟩) (by assumption) ?_
  rotate_left 1
  · (intro w hSw; (try dsimp only at hSw); go_simp; all_goals with_reducible rfl)
  try simp only [Act.put, List.setIfInBounds_toArray, List.set_cons_zero, List.set_cons_succ]
  refine wpAnyH_take (i := 3) (v := ?_) rfl (by kernel_rfl) (by kernel_rfl) (by kernel_rfl) (fun _ _ _ h => h) (Or.inl ⟨by rfl, ?_⟩) (by assumption) ?_
  rotate_left 1
  · (intro w hSw; (try dsimp only at hSw); go_simp; all_goals with_reducible rfl)
  try simp only [Act.put, List.setIfInBounds_toArray, List.set_cons_zero, List.set_cons_succ]
  simp only [List.getElem_toArray, List.getElem_cons_succ, List.getElem_cons_zero, Act.put, List.setIfInBounds_toArray, List.set_cons_zero, List.set_cons_succ]
  have HWd := Lib.hid (HW.out w1.drew hbw.drew)
  refine wpAnyH_ready (rs := [4]) (by kernel_rfl) (by simp) ?_
  refine AllReadyH.cons rfl (fun K hK => ?_) ?_
  rotate_left 1
  · exact AllReadyH.nil
  go_simp
  with_reducible refine (HWd.out).mono ?_
  rintro e w2 ⟨a1, n1, c1, mb, f, he, hn1, hS, hM, hA, hb2⟩
  subst he
  have S2 : w2.cell? ⟨w.heap.size, 0, none⟩ = some (.int .i64 (s : Int)) ∧ w2.cell? ⟨w.heap.size, 1, none⟩ = some (.int .i64 m) ∧ w2.cell? ⟨w.heap.size, 2, none⟩ = some (.slice a q cap) := ⟨kept1 hHeld.1 hb2, kept1 hHeld.2.1 hb2, kept1 hHeld.2.2 hb2⟩
  refine hK.out _ _ S2 (fun hHeld2 => ?_)
  clear hK K
  try simp only [List.getElem_toArray, List.getElem_cons_succ, List.getElem_cons_zero, Act.put, List.setIfInBounds_toArray, List.set_cons_zero, List.set_cons_succ]
  have HS2 := Lib.hid (signs_after hV hn1 hS.out hM.out hA.out (cap := c1) w2 (Below.refl _ _))
  have hbw2 : Below w.heap.size w w2 := Below.trans hbw.drew (hb2.mono (Below.size hbw.drew))
  clear hn1 hS hM hA hb2 HW HWd
  refine wpAnyH_ready (rs := [5]) (by kernel_rfl) (by simp) ?_
  refine AllReadyH.cons rfl (fun K hK => ?_) ?_
  rotate_left 1
  · exact AllReadyH.nil
  go_simp
  with_reducible refine (HS2.out).mono ?_
  rintro e w3 ⟨v, he, hO⟩
  subst he
  have S3 : w3.cell? ⟨w.heap.size, 0, none⟩ = some (.int .i64 (s : Int)) ∧ w3.cell? ⟨w.heap.size, 1, none⟩ = some (.int .i64 m) ∧ w3.cell? ⟨w.heap.size, 2, none⟩ = some (.slice a q cap) := ⟨kept1 S2.1 hO.out.b, kept1 S2.2.1 hO.out.b, kept1 S2.2.2 hO.out.b⟩
  refine hK.out _ _ S3 (fun hHeld3 => ?_)
  clear hK K HS2
  try simp only [List.getElem_toArray, List.getElem_cons_succ, List.getElem_cons_zero, Act.put, List.setIfInBounds_toArray, List.set_cons_zero, List.set_cons_succ]
  obtain ⟨a3, c3, rfl, hG⟩ := hO.out.at
  have hbw3 : Below w.heap.size w w3 := hbw2.trans (hO.out.b.mono hbw2.size)
  replace hG := Lib.hid hG
  clear hO hHeld hHeld2 hbw2
  refine wpAnyH_ready (rs := [6]) (by kernel_rfl) (by simp) ?_
  refine AllReadyH.cons rfl (fun K hK => ?_) ?_
  rotate_left 1
  · exact AllReadyH.nil
  go_simp
  with_reducible refine (HF.out w3 a3 c3 hG).mono ?_
  rintro e w4 ⟨lb, wb, cl, cw, he, hl, hw, _, _, _, hb4⟩
  subst he
  have S4 : w4.cell? ⟨w.heap.size, 0, none⟩ = some (.int .i64 (s : Int)) ∧ w4.cell? ⟨w.heap.size, 1, none⟩ = some (.int .i64 m) ∧ w4.cell? ⟨w.heap.size, 2, none⟩ = some (.slice a q cap) := ⟨kept1 S3.1 hb4, kept1 S3.2.1 hb4, kept1 S3.2.2 hb4⟩
  refine hK.out _ _ S4 (fun hHeld4 => ?_)
  clear hK K HF
  try simp only [List.getElem_toArray, List.getElem_cons_succ, List.getElem_cons_zero, Act.put, List.setIfInBounds_toArray, List.set_cons_zero, List.set_cons_succ]
  refine wpAnyH_take (i := 7) (v := ?_) rfl (by kernel_rfl) (by kernel_rfl) (by kernel_rfl) (fun _ _ _ h => h) (Or.inl ⟨by rfl, ?_⟩) (by assumption) ?_
  rotate_left 1
  · (intro w hSw; (try dsimp only at hSw); go_simp; all_goals with_reducible rfl)
  try simp only [Act.put, List.setIfInBounds_toArray, List.set_cons_zero, List.set_cons_succ]
  refine wpAnyH_take (i := 8) (v := ?_) rfl (by kernel_rfl) (by kernel_rfl) (by kernel_rfl) (fun _ _ _ h => h) (Or.inl ⟨by rfl, ?_⟩) (by assumption) ?_
  rotate_left 1
  · (intro w hSw; (try dsimp only at hSw); go_simp; all_goals with_reducible rfl)
  try simp only [Act.put, List.setIfInBounds_toArray, List.set_cons_zero, List.set_cons_succ]
  refine wpAnyH_take (i := 9) (v := ?_) rfl (by kernel_rfl) (by kernel_rfl) (by kernel_rfl) (fun _ _ _ h => h) (Or.inl ⟨by rfl, ?_⟩) (by assumption) ?_
  rotate_left 1
  · (intro w hSw; (try dsimp only at hSw); go_simp; all_goals with_reducible rfl)
  try simp only [Act.put, List.setIfInBounds_toArray, List.set_cons_zero, List.set_cons_succ]
  refine wpAnyH_take (i := 10) (v := ?_) rfl (by kernel_rfl) (by kernel_rfl) (by kernel_rfl) (fun _ _ _ h => h) (Or.inl ⟨by rfl, ?_⟩) (by assumption) ?_
  rotate_left 1
  · (intro w hSw; (try dsimp only at hSw); go_simp; all_goals with_reducible rfl)
  try simp only [Act.put, List.setIfInBounds_toArray, List.set_cons_zero, List.set_cons_succ]
  simp only [List.getElem_toArray, List.getElem_cons_succ, List.getElem_cons_zero, Act.put, List.setIfInBounds_toArray, List.set_cons_zero, List.set_cons_succ]
  refine wpAnyH_done (by kernel_rfl) ?_ _
  show wpList _ _ _ _ _ _
  have hbf := hbw3.trans (hb4.mono hbw3.size)
  clear S0 S2 S3 S4 hHeld3 hHeld4
  go_wp2
  go_ret3
  exact ⟨lb, wb, cl, cw, rfl, hl, hw, hbf⟩
end Go.Proofs.YtmkjmpkicmadcaaDoor

/- Rows of cells wherever they lie; slices.Concat of two lists of workings. -/
namespace Go.Proofs.YtmkjmpkicmadcaaDoor
open Go.RowKit

/-- cells in a row, wherever they lie -/
def CsAt (w : World) (a : Option Addr) (cs : List Value) : Prop := ∀ j u, cs[j]? = some u → ∃ x, a = some x ∧ w.cell? (x.add j) = some u
theorem CsAt.below {w W : World} {a : Option Addr} {cs : List Value} (h : CsAt w a cs) (hb : Below w.heap.size w W) : CsAt W a cs := fun j u hu => by
  obtain ⟨x, rfl, h1⟩ := h j u hu
  exact ⟨x, rfl, kept1 h1 hb⟩
theorem CsAt.none {w : World} {cs : List Value} (h : CsAt w none cs) : cs = [] := by
  cases cs with
  | nil => rfl
  | cons u r =>
    obtain ⟨x, hx, _⟩ := h 0 u rfl
    cases hx
theorem cs_of_owns {w : World} {B n size : Nat} {e : TypeId} {v : Value} {cs : List Value} (h : w.ownsRow B e size v n cs) : ∃ a cap, v = .slice a n cap ∧ CsAt w a cs ∧ (a = none → cap = 0) := by
  obtain ⟨hl, h2⟩ := h
  rcases h2 with ⟨hv, h0⟩ | ⟨g, cap, cur, hv, hb, hg, hle, hcm, hs, ht⟩
  · refine ⟨none, 0, by rw [hv, h0], fun j u hu => ?_, fun _ => rfl⟩
    rw [h0] at hl
    have : cs = [] := List.length_eq_zero_iff.1 (by omega)
    rw [this] at hu
    simp at hu
  · refine ⟨_, cap, hv, fun j u hu => ⟨_, rfl, ?_⟩, fun h => by cases h⟩
    have hj : j < n * size := by have := (List.getElem?_eq_some_iff.1 hu).1; omega
    have e1 : (⟨g, 0, none⟩ : Addr).add j = ⟨g, j, none⟩ := by unfold Addr.add; split <;> simp_all
    rw [e1]
    rw [← ht, List.getElem?_take_of_lt hj, Array.getElem?_toList] at hu
    simp [World.cell?, hg, hu]
theorem cs_one {w : World} {g : Nat} {v : Value} (h : w.cell? ⟨g, 0, none⟩ = some v) : CsAt w (some ⟨g, 0, none⟩) [v] := fun j u hu => by
  match j, hu with
  | 0, hu =>
    simp at hu
    subst hu
    exact ⟨_, rfl, h⟩
  | j + 1, hu => simp at hu
theorem grownBy_refl2 (w : World) (r : Option Nat) : w.grownBy w r := ⟨rfl, rfl, rfl, Nat.le_refl _, fun _ _ _ => rfl⟩
theorem below_grown2 {w0 w w' : World} {v : Value} {e : TypeId} {size n : Nat} {xs : List Value} (hb : Below w0.heap.size w0 w) (ho : w.ownsRow w0.heap.size e size v n xs) (hg : w.grownBy w' v.ownBlock) : Below w0.heap.size w0 w' :=
  ⟨hg.os.trans hb.os, hg.tape.trans hb.tape, hg.output.trans hb.output, Nat.le_trans hb.size hg.size, fun k hk => (hg.block k (Nat.lt_of_lt_of_le hk hb.size) (fun e1 => by have := ownFar ho e1.symm; omega)).trans (hb.block k hk)⟩
theorem owns_new2 (w : World) (e : TypeId) (size cap : Nat) (cs : Array Value) (h : cs.size = cap * size) (hc : cap ≤ maxLen) : (w.alloc (.cells cs e)).ownsRow w.heap.size e size (.slice (some ⟨w.heap.size, 0, none⟩) 0 cap) 0 [] :=
  ⟨by simp, .inr ⟨w.heap.size, cap, cs, rfl, Nat.le_refl _, World.alloc_heap_new w _, Nat.zero_le _, hc, h, by simp⟩⟩
/-- a row of one's own, and nothing else -/
structure CcR (w W : World) (e : TypeId) (size : Nat) (v : Value) (n : Nat) (cs : List Value) : Prop where
  o : W.ownsRow w.heap.size e size v n cs
  b : Below w.heap.size w W

theorem infoWk : (Tryd.prog.info? 69).map (fun i => (i.zero, i.size, i.bytes)) = some (some (.agg #[.int .i64 0, .int .i64 0, .int .i64 0]), 3, 24) := by kernel_rfl

/-- Grow of nothing -/
theorem growWk_any (n : Nat) (hn : n ≤ 100000) (w : World) :
    Calls Tryd.prog 85 #[.slice none 0 0, .int .i64 (n : Int)] w fun e w' => ∃ v, e = .returned v ∧ w'.ownsRow w.heap.size 69 3 v 0 [] ∧ Below w.heap.size w w' := by
  obtain ⟨i0, hi, hz0, hz1, hz2⟩ := info_parts infoWk
  by_cases h0 : n = 0
  · subst h0
    refine (Any8.slices_Grow_room Tryd.grow85 none 0 0 0 w (Nat.le_refl _) (by omega) (by omega) (Nat.le_refl _)).mono ?_
    rintro e w' ⟨rfl, rfl⟩
    exact ⟨_, rfl, World.ownsRow_nil _ _ _ _, Below.refl _ _⟩
  · refine (Any8.slices_Grow_grow Tryd.grow85 i0 _ hi hz0 (by rw [hz1]; decide) none 0 0 n [] w (Nat.le_refl _) (by omega) (by rw [hz2]; omega) (by omega) (by simp) (fun _ => rfl) (fun a h => by cases h)).mono ?_
    rintro e w' ⟨rfl, rfl⟩
    refine ⟨_, rfl, owns_new2 w.drew _ _ _ _ ?_ (grownCap_le_maxLen _ _ _ _ (by unfold maxLen; omega)), ((Below.refl _ _).drew).alloc (Nat.le_refl _) _⟩
    · have hge := grownCap_ge w (0 + n) 0 69
      have e3 : (.agg #[.int .i64 0, .int .i64 0, .int .i64 0] : Value).cells.size = 3 := rfl
      show (_ ++ _ ++ _ : Array Value).size = _
      rw [Array.size_append, Array.size_append, size_zeroCells, size_zeroCells, e3]
      show 0 + _ + (grownCap w (0 + n) 0 69 - (0 + n)) * 3 = grownCap w (0 + n) 0 69 * 3
      omega

/-- append of cells that lie in a row, to cells of one's own -/
theorem wpList_append_csWk {w : World} {ops : Array Oper} {rest : List Oper} {o : Oper} {a : Act} {Q : Exit → Act → World → Prop} (hgd : o.guard = none) (s x : Operand)
    (ho : o.op = .call { callee := .builtin .append, args := #[s, x], argTypes := #[32, 32] })
    (base : Nat) (v : Value) (n : Nat) (pre : List Value) (hs : a.eval s = v) (hown : w.ownsRow base 69 3 v n pre)
    (b : Option Addr) (m cap : Nat) (cs : List Value) (hm : cs.length = m * 3) (hone : ∀ u ∈ cs, u.oneCell' = true) (hx : a.eval x = .slice b m cap) (hL : CsAt w b cs) (hb : b = none → cap = 0)
    (h9 : n + m ≤ 100000) (hbase : base ≤ w.heap.size)
    (h : ∀ v' w', w'.ownsRow base 69 3 v' (n + m) (pre ++ cs) → w.grownBy w' v.ownBlock → wpList Tryd.prog ops Q rest (a.put o.dst v') w') : wpList Tryd.prog ops Q (o :: rest) a w := by
  obtain ⟨i0, hi, hz0, hz1, hz2⟩ := info_parts infoWk
  cases b with
  | none =>
    have h0 := hb rfl
    subst h0
    obtain rfl := hL.none
    obtain rfl : m = 0 := by simp at hm; omega
    refine wpList_append_own_none hgd s x 32 ho base 69 i0 3 Tryd.underlying32 hi v n _ hs hown hx ?_
    refine h v w ?_ (grownBy_refl2 _ _)
    rw [List.append_nil]
    exact hown
  | some ad =>
    refine wpList_append_own _ hgd s x 32 ho base 69 i0 _ 3 24 Tryd.underlying32 hi hz0 hz1 hz2 rfl (by decide) v n _ hs hown ad m cap cs hx hm (fun j u hu => by
      obtain ⟨y, hy, hc⟩ := hL j u hu
      obtain rfl := Option.some.inj hy
      exact hc) hone ?_ ?_ hbase ?_
    · unfold maxLen; omega
    · omega
    · intro v' w' h1 h2 _
      exact h v' w' h1 h2

set_option maxRecDepth 100000 in
set_option maxHeartbeats 4000000 in
theorem concatWk_any (ab : Nat) (a b : Option Addr) (m q cap cap2 : Nat) (hm9 : m ≤ 1000) (hq9 : q ≤ 1000) (L L2 : List Value) (hm : Hid (L.length = m * 3)) (hq : Hid (L2.length = q * 3)) (hu : Hid (∀ u ∈ L, u.oneCell' = true)) (hu2 : Hid (∀ u ∈ L2, u.oneCell' = true)) (ha : Hid (a = none → cap = 0)) (hb : Hid (b = none → cap2 = 0)) (w : World) (hL : Hid (CsAt w a L)) (hL2 : Hid (CsAt w b L2)) (c0 : w.cell? ⟨ab, 0, none⟩ = some (.slice a m cap)) (c1 : w.cell? ⟨ab, 1, none⟩ = some (.slice b q cap2)) :
    Calls Tryd.prog 74 #[.slice (some ⟨ab, 0, none⟩) 2 2] w fun e w' => ∃ v, e = .returned v ∧ Hid (w'.ownsRow w.heap.size 69 3 v (m + q) (L ++ L2)) ∧ Below w.heap.size w w' := by
  have HG := Lib.hid (growWk_any (m + q) (by omega) w)
  go_enter Tryd.func74, Tryd.ntmps74
  go_wp2
  go_loopw [11, 3] (fun i s wr => ∃ k : Nat, k ≤ 2 ∧ i = .int .i64 k ∧ s = .int .i64 ((if k = 0 then 0 else if k = 1 then m else m + q : Nat) : Int) ∧ w = wr) (fun i _ _ => 2 - (RowKit.intOf i).toNat)
  case atStart => exact ⟨0, by omega, rfl, rfl, rfl⟩
  case round =>
    obtain ⟨k, hk, rfl, rfl, rfl⟩ := hrel
    rcases (by omega : k = 0 ∨ k = 1 ∨ k = 2) with rfl | rfl | rfl
    · go_wp2
      go_roundw
      case rel => exact ⟨1, by omega, by go_num, by first | rfl | go_num, by first | rfl | trivial⟩
      case measure => decide
    · go_wp2
      go_roundw
      case rel => exact ⟨2, by omega, by go_num, by first | rfl | go_num, by first | rfl | trivial⟩
      case measure => decide
    · go_wp2_with fail
      refine HG.out.mono ?_
      rintro e w1 ⟨v, rfl, hown, hb1⟩
      have hS := Lib.hid (CcR.mk hown hb1)
      have d0 := kept1 c0 hb1
      have d1 := kept1 c1 hb1
      have hL' := Lib.hid (hL.out.below hb1)
      have hL2' := Lib.hid (hL2.out.below hb1)
      clear HG hown hb1
      go_wp2
      go_loopw [27, 6] (fun i v W => ∃ k : Nat, k ≤ 2 ∧ i = .int .i64 k ∧ Hid (CcR w W 69 3 v (if k = 0 then 0 else if k = 1 then m else m + q) (if k = 0 then [] else if k = 1 then L else L ++ L2))) (fun i _ _ => 2 - (RowKit.intOf i).toNat)
      case atStart => exact ⟨0, by omega, rfl, hS⟩
      case round =>
        clear hS d0 d1 hL' hL2'
        obtain ⟨k, hk, rfl, hS⟩ := hrel
        have e0 := kept1 c0 hS.out.b
        have e1 := kept1 c1 hS.out.b
        have hLw := Lib.hid (hL.out.below hS.out.b)
        have hL2w := Lib.hid (hL2.out.below hS.out.b)
        rcases (by omega : k = 0 ∨ k = 1 ∨ k = 2) with rfl | rfl | rfl
        · simp only [if_true] at hS
          go_wp2_with (first
            | (refine wpList_append_csWk rfl (.tmp 31) (.tmp 32) rfl w.heap.size _ _ [] rfl hS.out.o a m cap L hm.out hu.out rfl hLw.out ha.out ?c1 ?c2 ?_) | fail)
          case c1 => omega
          case c2 => exact hS.out.b.size
          intro v' w2 h1 h2
          have hS2 := Lib.hid (CcR.mk (cs := L) (n := m) (by simpa using h1) (below_grown2 hS.out.b hS.out.o h2))
          clear h1 h2 hS
          go_wp2
          go_roundw
          case rel => exact ⟨1, by omega, by go_num, hS2⟩
          case measure => decide
        · simp only [Nat.one_ne_zero, if_false, if_true] at hS
          go_wp2_with (first
            | (refine wpList_append_csWk rfl (.tmp 31) (.tmp 32) rfl w.heap.size _ _ L rfl hS.out.o b q cap2 L2 hq.out hu2.out rfl hL2w.out hb.out ?c1 ?c2 ?_) | fail)
          case c1 => omega
          case c2 => exact hS.out.b.size
          intro v' w2 h1 h2
          have hS2 := Lib.hid (CcR.mk (cs := L ++ L2) (n := m + q) h1 (below_grown2 hS.out.b hS.out.o h2))
          clear h1 h2 hS
          go_wp2
          go_roundw
          case rel => exact ⟨2, by omega, by go_num, hS2⟩
          case measure => decide
        · have hS3 : CcR w wr _ _ _ (m + q) (L ++ L2) := hS.out
          have h9 := Lib.hid hS3.o
          have hb9 := hS3.b
          clear hS hS3 e0 e1
          go_wp2
          go_ret
          exact ⟨_, rfl, h9, hb9⟩
end Go.Proofs.YtmkjmpkicmadcaaDoor

/- Contracts of package plate: with, With of valid shops. -/
namespace Go.Proofs.YtmkjmpkicmadcaaDoor
open Go.RowKit

/-- the cells of workings -/
def wkCells (L : List Pl.Wk) : List Value := L.flatMap fun l => [.int .i64 l.a, .int .i64 l.b, .int .i64 l.t]
theorem wkCells_len (L : List Pl.Wk) : (wkCells L).length = L.length * 3 := by
  induction L with
  | nil => rfl
  | cons l r ih => unfold wkCells at *; rw [List.flatMap_cons, List.length_append, ih]; simp; omega
theorem wkCells_append (L L2 : List Pl.Wk) : wkCells (L ++ L2) = wkCells L ++ wkCells L2 := by unfold wkCells; rw [List.flatMap_append]
theorem wkCells_get : ∀ {L : List Pl.Wk} {k : Nat}, k < L.length → (wkCells L)[k * 3]? = some (.int .i64 (L.getD k Pl.noW).a) ∧ (wkCells L)[k * 3 + 1]? = some (.int .i64 (L.getD k Pl.noW).b) ∧ (wkCells L)[k * 3 + 2]? = some (.int .i64 (L.getD k Pl.noW).t)
  | [], _, h => absurd h (by simp)
  | l :: r, 0, _ => ⟨rfl, rfl, rfl⟩
  | l :: r, k + 1, h => by
    have ih := wkCells_get (L := r) (k := k) (by simpa using h)
    have e : wkCells (l :: r) = .int .i64 l.a :: .int .i64 l.b :: .int .i64 l.t :: wkCells r := rfl
    have e0 : (k + 1) * 3 = k * 3 + 1 + 1 + 1 := by omega
    rw [e, e0]
    simp only [List.getElem?_cons_succ]
    exact ⟨ih.1, ih.2.1, ih.2.2⟩
theorem add_off {x : Addr} {k j : Nat} (h : 0 < j) : x.add (k + j) = ⟨(x.add k).block, (x.add k).off + j, none⟩ := by
  unfold Addr.add
  rw [if_neg (by omega)]
  split
  · rename_i e; subst e; simp
  · simp; omega
theorem wks_cells {w : World} {x : Addr} {L : List Pl.Wk} (h : WksAt w (some x) L) (j : Nat) (u : Value) (hu : (wkCells L)[j]? = some u) : w.cell? (x.add j) = some u := by
  have hj : j < L.length * 3 := by rw [← wkCells_len]; exact (List.getElem?_eq_some_iff.1 hu).1
  obtain ⟨k, r, rfl, hr⟩ : ∃ k r, j = k * 3 + r ∧ r < 3 := ⟨j / 3, j % 3, by omega, Nat.mod_lt _ (by decide)⟩
  obtain ⟨y, hy, h1, h2, h3⟩ := h k (by omega)
  obtain rfl := Option.some.inj hy
  obtain ⟨g1, g2, g3⟩ := wkCells_get (L := L) (k := k) (by omega)
  rcases (by omega : r = 0 ∨ r = 1 ∨ r = 2) with rfl | rfl | rfl
  · rw [Nat.add_zero] at hu ⊢
    rw [g1] at hu
    rw [h1]; exact hu
  · rw [g2] at hu
    rw [add_off (by omega), h2]; exact hu
  · rw [g3] at hu
    rw [add_off (by omega), h3]; exact hu
theorem wks_of_owns {w : World} {B : Nat} {v : Value} {L : List Pl.Wk} (h : w.ownsRow B 69 3 v L.length (wkCells L)) : ∃ a cap, v = .slice a L.length cap ∧ WksAt w a L ∧ (a = none → cap = 0) := by
  obtain ⟨_, h2⟩ := h
  rcases h2 with ⟨hv, h0⟩ | ⟨g, cap, cur, hv, hb, hg, hle, hcm, hs, ht⟩
  · exact ⟨none, 0, by rw [hv, h0], fun k hk => by omega, fun _ => rfl⟩
  · refine ⟨_, cap, hv, fun k hk => ⟨_, rfl, ?_⟩, fun h => by cases h⟩
    have hc : ∀ j u, (wkCells L)[j]? = some u → w.cell? ⟨g, j, none⟩ = some u := by
      intro j u hu
      have hj : j < L.length * 3 := by rw [← wkCells_len]; exact (List.getElem?_eq_some_iff.1 hu).1
      rw [← ht, List.getElem?_take_of_lt hj, Array.getElem?_toList] at hu
      simp [World.cell?, hg, hu]
    obtain ⟨g1, g2, g3⟩ := wkCells_get hk
    have e : (⟨g, 0, none⟩ : Addr).add (k * 3) = ⟨g, k * 3, none⟩ := by unfold Addr.add; split <;> simp_all
    rw [e]
    exact ⟨hc _ _ g1, hc _ _ g2, hc _ _ g3⟩
theorem wk_one (L : List Pl.Wk) : ∀ u ∈ wkCells L, u.oneCell' = true := by
  intro u hu
  unfold wkCells at hu
  obtain ⟨l, _, h⟩ := List.mem_flatMap.1 hu
  simp at h
  rcases h with rfl | rfl | rfl <;> rfl


theorem cs_of_wks {w : World} {a : Option Addr} {L : List Pl.Wk} (h : WksAt w a L) : CsAt w a (wkCells L) := fun j u hu => by
  cases a with
  | none =>
    have hj := (List.getElem?_eq_some_iff.1 hu).1
    rw [wkCells_len] at hj
    obtain ⟨x, hx, _⟩ := h 0 (by omega)
    cases hx
  | some x => exact ⟨x, rfl, wks_cells h j u hu⟩

set_option maxRecDepth 100000 in
set_option maxHeartbeats 4000000 in
theorem with_ok (s m : Int) (a : Option Addr) (q cap : Nat) (ha : Hid (a = none → cap = 0)) (L : List Pl.Wk) (hq : L.length = q) (hq2 : q ≤ 900) (x : Pl.Wk) (w : World) (hL : Hid (WksAt w a L)) :
    Calls Tryd.prog 57 #[.agg #[.int .i64 s, .int .i64 m, .slice a q cap], .agg #[.int .i64 x.a, .int .i64 x.b, .int .i64 x.t]] w fun e w' => ∃ a' c', e = .returned (.agg #[.int .i64 s, .int .i64 m, .slice a' (q + 1) c']) ∧ Hid (WksAt w' a' (L ++ [x])) ∧ Hid (a' = none → c' = 0) ∧ Hid (∀ y, a' = some y → w.heap.size ≤ y.block) ∧ Below w.heap.size w w' := by
  obtain ⟨xa, xb, xt⟩ := x
  have HC := Lib.hid (fun (ab : Nat) (W : World) (b : Option Addr) (hb : Below w.heap.size w W) (h2 : CsAt W b (wkCells [⟨xa, xb, xt⟩])) (hbn : b = none → 1 = 0) (c0 : W.cell? ⟨ab, 0, none⟩ = some (.slice a q cap)) (c1 : W.cell? ⟨ab, 1, none⟩ = some (.slice b 1 1)) => concatWk_any ab a b q 1 cap 1 (by omega) (by omega) (wkCells L) (wkCells [⟨xa, xb, xt⟩]) (Lib.hid (by rw [wkCells_len, hq])) (Lib.hid rfl) (Lib.hid (wk_one L)) (Lib.hid (wk_one _)) ha (Lib.hid hbn) W (Lib.hid (cs_of_wks (hL.out.below hb))) (Lib.hid h2) c0 c1)
  simp only
  go_enter Tryd.func57, Tryd.ntmps57
  go_wp2_with fail
  have k0 : (((((w.alloc (Obj.cells #[.int .i64 s, .int .i64 m, .slice a q cap] 34)).alloc (Obj.cells #[.int .i64 xa, .int .i64 xb, .int .i64 xt] 69)).alloc (Obj.cells #[.int .i64 0, .int .i64 0, .slice none 0 0] 34)).alloc (Obj.cells #[.int .i64 xa, .int .i64 xb, .int .i64 xt] 69)).alloc (Obj.cells #[.slice a q cap, .slice (some ⟨w.heap.size + 1 + 1 + 1, 0, none⟩) 1 1] 32)).cell? ⟨w.heap.size, 0, none⟩ = some (.int .i64 s) := by simp [go_sem]
  have k1 : (((((w.alloc (Obj.cells #[.int .i64 s, .int .i64 m, .slice a q cap] 34)).alloc (Obj.cells #[.int .i64 xa, .int .i64 xb, .int .i64 xt] 69)).alloc (Obj.cells #[.int .i64 0, .int .i64 0, .slice none 0 0] 34)).alloc (Obj.cells #[.int .i64 xa, .int .i64 xb, .int .i64 xt] 69)).alloc (Obj.cells #[.slice a q cap, .slice (some ⟨w.heap.size + 1 + 1 + 1, 0, none⟩) 1 1] 32)).cell? ⟨w.heap.size, 1, none⟩ = some (.int .i64 m) := by simp [go_sem]
  have k2 : (((((w.alloc (Obj.cells #[.int .i64 s, .int .i64 m, .slice a q cap] 34)).alloc (Obj.cells #[.int .i64 xa, .int .i64 xb, .int .i64 xt] 69)).alloc (Obj.cells #[.int .i64 0, .int .i64 0, .slice none 0 0] 34)).alloc (Obj.cells #[.int .i64 xa, .int .i64 xb, .int .i64 xt] 69)).alloc (Obj.cells #[.slice a q cap, .slice (some ⟨w.heap.size + 1 + 1 + 1, 0, none⟩) 1 1] 32)).cell? ⟨w.heap.size, 2, none⟩ = some (.slice a q cap) := by simp [go_sem]
  have kf : (((((w.alloc (Obj.cells #[.int .i64 s, .int .i64 m, .slice a q cap] 34)).alloc (Obj.cells #[.int .i64 xa, .int .i64 xb, .int .i64 xt] 69)).alloc (Obj.cells #[.int .i64 0, .int .i64 0, .slice none 0 0] 34)).alloc (Obj.cells #[.int .i64 xa, .int .i64 xb, .int .i64 xt] 69)).alloc (Obj.cells #[.slice a q cap, .slice (some ⟨w.heap.size + 1 + 1 + 1, 0, none⟩) 1 1] 32)).frozen? ⟨w.heap.size, 2, none⟩ = false := by simp [go_sem]
  have r0 : (((((w.alloc (Obj.cells #[.int .i64 s, .int .i64 m, .slice a q cap] 34)).alloc (Obj.cells #[.int .i64 xa, .int .i64 xb, .int .i64 xt] 69)).alloc (Obj.cells #[.int .i64 0, .int .i64 0, .slice none 0 0] 34)).alloc (Obj.cells #[.int .i64 xa, .int .i64 xb, .int .i64 xt] 69)).alloc (Obj.cells #[.slice a q cap, .slice (some ⟨w.heap.size + 1 + 1 + 1, 0, none⟩) 1 1] 32)).cell? ⟨w.heap.size + 1 + 1, 0, none⟩ = some (.int .i64 0) := by simp [go_sem]
  have r1 : (((((w.alloc (Obj.cells #[.int .i64 s, .int .i64 m, .slice a q cap] 34)).alloc (Obj.cells #[.int .i64 xa, .int .i64 xb, .int .i64 xt] 69)).alloc (Obj.cells #[.int .i64 0, .int .i64 0, .slice none 0 0] 34)).alloc (Obj.cells #[.int .i64 xa, .int .i64 xb, .int .i64 xt] 69)).alloc (Obj.cells #[.slice a q cap, .slice (some ⟨w.heap.size + 1 + 1 + 1, 0, none⟩) 1 1] 32)).cell? ⟨w.heap.size + 1 + 1, 1, none⟩ = some (.int .i64 0) := by simp [go_sem]
  have r2 : (((((w.alloc (Obj.cells #[.int .i64 s, .int .i64 m, .slice a q cap] 34)).alloc (Obj.cells #[.int .i64 xa, .int .i64 xb, .int .i64 xt] 69)).alloc (Obj.cells #[.int .i64 0, .int .i64 0, .slice none 0 0] 34)).alloc (Obj.cells #[.int .i64 xa, .int .i64 xb, .int .i64 xt] 69)).alloc (Obj.cells #[.slice a q cap, .slice (some ⟨w.heap.size + 1 + 1 + 1, 0, none⟩) 1 1] 32)).cell? ⟨w.heap.size + 1 + 1, 2, none⟩ = some (.slice none 0 0) := by simp [go_sem]
  have rf0 : (((((w.alloc (Obj.cells #[.int .i64 s, .int .i64 m, .slice a q cap] 34)).alloc (Obj.cells #[.int .i64 xa, .int .i64 xb, .int .i64 xt] 69)).alloc (Obj.cells #[.int .i64 0, .int .i64 0, .slice none 0 0] 34)).alloc (Obj.cells #[.int .i64 xa, .int .i64 xb, .int .i64 xt] 69)).alloc (Obj.cells #[.slice a q cap, .slice (some ⟨w.heap.size + 1 + 1 + 1, 0, none⟩) 1 1] 32)).frozen? ⟨w.heap.size + 1 + 1, 0, none⟩ = false := by simp [go_sem]
  have rf1 : (((((w.alloc (Obj.cells #[.int .i64 s, .int .i64 m, .slice a q cap] 34)).alloc (Obj.cells #[.int .i64 xa, .int .i64 xb, .int .i64 xt] 69)).alloc (Obj.cells #[.int .i64 0, .int .i64 0, .slice none 0 0] 34)).alloc (Obj.cells #[.int .i64 xa, .int .i64 xb, .int .i64 xt] 69)).alloc (Obj.cells #[.slice a q cap, .slice (some ⟨w.heap.size + 1 + 1 + 1, 0, none⟩) 1 1] 32)).frozen? ⟨w.heap.size + 1 + 1, 1, none⟩ = false := by simp [go_sem]
  have rf2 : (((((w.alloc (Obj.cells #[.int .i64 s, .int .i64 m, .slice a q cap] 34)).alloc (Obj.cells #[.int .i64 xa, .int .i64 xb, .int .i64 xt] 69)).alloc (Obj.cells #[.int .i64 0, .int .i64 0, .slice none 0 0] 34)).alloc (Obj.cells #[.int .i64 xa, .int .i64 xb, .int .i64 xt] 69)).alloc (Obj.cells #[.slice a q cap, .slice (some ⟨w.heap.size + 1 + 1 + 1, 0, none⟩) 1 1] 32)).frozen? ⟨w.heap.size + 1 + 1, 2, none⟩ = false := by simp [go_sem]
  have d0 : (((((w.alloc (Obj.cells #[.int .i64 s, .int .i64 m, .slice a q cap] 34)).alloc (Obj.cells #[.int .i64 xa, .int .i64 xb, .int .i64 xt] 69)).alloc (Obj.cells #[.int .i64 0, .int .i64 0, .slice none 0 0] 34)).alloc (Obj.cells #[.int .i64 xa, .int .i64 xb, .int .i64 xt] 69)).alloc (Obj.cells #[.slice a q cap, .slice (some ⟨w.heap.size + 1 + 1 + 1, 0, none⟩) 1 1] 32)).cell? ⟨w.heap.size + 1 + 1 + 1 + 1, 0, none⟩ = some (.slice a q cap) := by simp [go_sem]
  have d1 : (((((w.alloc (Obj.cells #[.int .i64 s, .int .i64 m, .slice a q cap] 34)).alloc (Obj.cells #[.int .i64 xa, .int .i64 xb, .int .i64 xt] 69)).alloc (Obj.cells #[.int .i64 0, .int .i64 0, .slice none 0 0] 34)).alloc (Obj.cells #[.int .i64 xa, .int .i64 xb, .int .i64 xt] 69)).alloc (Obj.cells #[.slice a q cap, .slice (some ⟨w.heap.size + 1 + 1 + 1, 0, none⟩) 1 1] 32)).cell? ⟨w.heap.size + 1 + 1 + 1 + 1, 1, none⟩ = some (.slice (some ⟨w.heap.size + 1 + 1 + 1, 0, none⟩) 1 1) := by simp [go_sem]
  have e0 : (((((w.alloc (Obj.cells #[.int .i64 s, .int .i64 m, .slice a q cap] 34)).alloc (Obj.cells #[.int .i64 xa, .int .i64 xb, .int .i64 xt] 69)).alloc (Obj.cells #[.int .i64 0, .int .i64 0, .slice none 0 0] 34)).alloc (Obj.cells #[.int .i64 xa, .int .i64 xb, .int .i64 xt] 69)).alloc (Obj.cells #[.slice a q cap, .slice (some ⟨w.heap.size + 1 + 1 + 1, 0, none⟩) 1 1] 32)).cell? ⟨w.heap.size + 1 + 1 + 1, 0, none⟩ = some (.int .i64 xa) := by simp [go_sem]
  have e1 : (((((w.alloc (Obj.cells #[.int .i64 s, .int .i64 m, .slice a q cap] 34)).alloc (Obj.cells #[.int .i64 xa, .int .i64 xb, .int .i64 xt] 69)).alloc (Obj.cells #[.int .i64 0, .int .i64 0, .slice none 0 0] 34)).alloc (Obj.cells #[.int .i64 xa, .int .i64 xb, .int .i64 xt] 69)).alloc (Obj.cells #[.slice a q cap, .slice (some ⟨w.heap.size + 1 + 1 + 1, 0, none⟩) 1 1] 32)).cell? ⟨w.heap.size + 1 + 1 + 1, 1, none⟩ = some (.int .i64 xb) := by simp [go_sem]
  have e2 : (((((w.alloc (Obj.cells #[.int .i64 s, .int .i64 m, .slice a q cap] 34)).alloc (Obj.cells #[.int .i64 xa, .int .i64 xb, .int .i64 xt] 69)).alloc (Obj.cells #[.int .i64 0, .int .i64 0, .slice none 0 0] 34)).alloc (Obj.cells #[.int .i64 xa, .int .i64 xb, .int .i64 xt] 69)).alloc (Obj.cells #[.slice a q cap, .slice (some ⟨w.heap.size + 1 + 1 + 1, 0, none⟩) 1 1] 32)).cell? ⟨w.heap.size + 1 + 1 + 1, 2, none⟩ = some (.int .i64 xt) := by simp [go_sem]
  have hX : Below w.heap.size w (((((w.alloc (Obj.cells #[.int .i64 s, .int .i64 m, .slice a q cap] 34)).alloc (Obj.cells #[.int .i64 xa, .int .i64 xb, .int .i64 xt] 69)).alloc (Obj.cells #[.int .i64 0, .int .i64 0, .slice none 0 0] 34)).alloc (Obj.cells #[.int .i64 xa, .int .i64 xb, .int .i64 xt] 69)).alloc (Obj.cells #[.slice a q cap, .slice (some ⟨w.heap.size + 1 + 1 + 1, 0, none⟩) 1 1] 32)) := below_alloc (below_alloc (below_alloc (below_alloc (below_alloc (Below.refl _ _) _) _) _) _) _
  have hz : w.heap.size + 5 ≤ (((((w.alloc (Obj.cells #[.int .i64 s, .int .i64 m, .slice a q cap] 34)).alloc (Obj.cells #[.int .i64 xa, .int .i64 xb, .int .i64 xt] 69)).alloc (Obj.cells #[.int .i64 0, .int .i64 0, .slice none 0 0] 34)).alloc (Obj.cells #[.int .i64 xa, .int .i64 xb, .int .i64 xt] 69)).alloc (Obj.cells #[.slice a q cap, .slice (some ⟨w.heap.size + 1 + 1 + 1, 0, none⟩) 1 1] 32)).heap.size := by simp
  have hcs : CsAt (((((w.alloc (Obj.cells #[.int .i64 s, .int .i64 m, .slice a q cap] 34)).alloc (Obj.cells #[.int .i64 xa, .int .i64 xb, .int .i64 xt] 69)).alloc (Obj.cells #[.int .i64 0, .int .i64 0, .slice none 0 0] 34)).alloc (Obj.cells #[.int .i64 xa, .int .i64 xb, .int .i64 xt] 69)).alloc (Obj.cells #[.slice a q cap, .slice (some ⟨w.heap.size + 1 + 1 + 1, 0, none⟩) 1 1] 32)) (some ⟨w.heap.size + 1 + 1 + 1, 0, none⟩) (wkCells [⟨xa, xb, xt⟩]) := fun j u hu => by
    refine ⟨_, rfl, ?_⟩
    match j, hu with
    | 0, hu => simp [wkCells] at hu; subst hu; exact e0
    | 1, hu => simp [wkCells] at hu; subst hu; exact e1
    | 2, hu => simp [wkCells] at hu; subst hu; exact e2
    | j + 3, hu => simp [wkCells] at hu
  clear e0 e1 e2
  generalize ((((w.alloc (Obj.cells #[.int .i64 s, .int .i64 m, .slice a q cap] 34)).alloc (Obj.cells #[.int .i64 xa, .int .i64 xb, .int .i64 xt] 69)).alloc (Obj.cells #[.int .i64 0, .int .i64 0, .slice none 0 0] 34)).alloc (Obj.cells #[.int .i64 xa, .int .i64 xb, .int .i64 xt] 69)).alloc (Obj.cells #[.slice a q cap, .slice (some ⟨w.heap.size + 1 + 1 + 1, 0, none⟩) 1 1] 32) = Y at *
  refine (HC.out _ Y _ hX hcs (fun h => by cases h) d0 d1).mono ?_
  rintro e w2 ⟨v, rfl, ho, hb2⟩
  replace k0 := kept1 k0 hb2
  replace k1 := kept1 k1 hb2
  replace k2 := kept1 k2 hb2
  have kf' : w2.frozen? ⟨w.heap.size, 2, none⟩ = false := (hb2.frozen (p := ⟨w.heap.size, 2, none⟩) (by show w.heap.size < Y.heap.size; omega)).trans kf
  replace r0 := kept1 r0 hb2
  replace r1 := kept1 r1 hb2
  replace r2 := kept1 r2 hb2
  have rf0' : w2.frozen? ⟨w.heap.size + 1 + 1, 0, none⟩ = false := (hb2.frozen (p := ⟨w.heap.size + 1 + 1, 0, none⟩) (by show w.heap.size + 1 + 1 < Y.heap.size; omega)).trans rf0
  have rf1' : w2.frozen? ⟨w.heap.size + 1 + 1, 1, none⟩ = false := (hb2.frozen (p := ⟨w.heap.size + 1 + 1, 1, none⟩) (by show w.heap.size + 1 + 1 < Y.heap.size; omega)).trans rf1
  have rf2' : w2.frozen? ⟨w.heap.size + 1 + 1, 2, none⟩ = false := (hb2.frozen (p := ⟨w.heap.size + 1 + 1, 2, none⟩) (by show w.heap.size + 1 + 1 < Y.heap.size; omega)).trans rf2
  have hlen : (wkCells L ++ wkCells [⟨xa, xb, xt⟩]) = wkCells (L ++ [⟨xa, xb, xt⟩]) := (wkCells_append _ _).symm
  have hll : (L ++ [(⟨xa, xb, xt⟩ : Pl.Wk)]).length = q + 1 := by rw [List.length_append, hq]; rfl
  have ho2 := ho.out
  rw [hlen, ← hll] at ho2
  obtain ⟨a', c', rfl, hW, han⟩ := wks_of_owns ho2
  rw [hll] at ho2 ⊢
  have hbf : But (fun k => k = w.heap.size ∨ k = w.heap.size + 1 + 1) w2 ((((w2.setCell ⟨w.heap.size, 2, none⟩ (.slice a' (q + 1) c')).setCell ⟨w.heap.size + 1 + 1, 0, none⟩ (.int .i64 s)).setCell ⟨w.heap.size + 1 + 1, 1, none⟩ (.int .i64 m)).setCell ⟨w.heap.size + 1 + 1, 2, none⟩ (.slice a' (q + 1) c')) := ((((But.refl (fun k => k = w.heap.size ∨ k = w.heap.size + 1 + 1) w2).setCell (p := ⟨w.heap.size, 2, none⟩) (.inr (.inl rfl)) _).setCell (p := ⟨w.heap.size + 1 + 1, 0, none⟩) (.inr (.inr rfl)) _).setCell (p := ⟨w.heap.size + 1 + 1, 1, none⟩) (.inr (.inr rfl)) _).setCell (p := ⟨w.heap.size + 1 + 1, 2, none⟩) (.inr (.inr rfl)) _
  have hof := ownBut ho2 hbf (fun g hg e => by have := ownFar ho2 hg; omega)
  have hWf : Hid (WksAt ((((w2.setCell ⟨w.heap.size, 2, none⟩ (.slice a' (q + 1) c')).setCell ⟨w.heap.size + 1 + 1, 0, none⟩ (.int .i64 s)).setCell ⟨w.heap.size + 1 + 1, 1, none⟩ (.int .i64 m)).setCell ⟨w.heap.size + 1 + 1, 2, none⟩ (.slice a' (q + 1) c')) a' (L ++ [⟨xa, xb, xt⟩])) := Lib.hid (by
    rw [← hll] at hof
    obtain ⟨a9, c9, e9, h9, _⟩ := wks_of_owns hof
    simp only [Value.slice.injEq] at e9
    obtain ⟨rfl, _, _⟩ := e9
    rw [hll] at h9
    exact h9)
  have hb9 := (hX.trans (hb2.mono hX.size))
  have hbz := hb9.trans (hbf.below hb9.size (fun k hk e => by omega))
  have z0 : ((((w2.setCell ⟨w.heap.size, 2, none⟩ (.slice a' (q + 1) c')).setCell ⟨w.heap.size + 1 + 1, 0, none⟩ (.int .i64 s)).setCell ⟨w.heap.size + 1 + 1, 1, none⟩ (.int .i64 m)).setCell ⟨w.heap.size + 1 + 1, 2, none⟩ (.slice a' (q + 1) c')).cell? ⟨w.heap.size + 1 + 1, 0, none⟩ = some (.int .i64 s) := by simp [go_sem, r0]
  have z1 : ((((w2.setCell ⟨w.heap.size, 2, none⟩ (.slice a' (q + 1) c')).setCell ⟨w.heap.size + 1 + 1, 0, none⟩ (.int .i64 s)).setCell ⟨w.heap.size + 1 + 1, 1, none⟩ (.int .i64 m)).setCell ⟨w.heap.size + 1 + 1, 2, none⟩ (.slice a' (q + 1) c')).cell? ⟨w.heap.size + 1 + 1, 1, none⟩ = some (.int .i64 m) := by simp [go_sem, r1]
  have z2 : ((((w2.setCell ⟨w.heap.size, 2, none⟩ (.slice a' (q + 1) c')).setCell ⟨w.heap.size + 1 + 1, 0, none⟩ (.int .i64 s)).setCell ⟨w.heap.size + 1 + 1, 1, none⟩ (.int .i64 m)).setCell ⟨w.heap.size + 1 + 1, 2, none⟩ (.slice a' (q + 1) c')).cell? ⟨w.heap.size + 1 + 1, 2, none⟩ = some (.slice a' (q + 1) c') := by simp [go_sem, r2]
  have e2 : (w2.setCell ⟨w.heap.size, 2, none⟩ (.slice a' (q + 1) c')).cell? ⟨w.heap.size, 2, none⟩ = some (.slice a' (q + 1) c') := by simp [go_sem, k2]
  have hfar : Hid (∀ y, a' = some y → w.heap.size ≤ y.block) := Lib.hid (fun y e => by
    subst e
    have := ownFar ho2 (g := y.block) rfl
    omega)
  clear ho ho2 hof hbf hb9 HC
  replace han := Lib.hid han
  go_wp2
  generalize (((w2.setCell ⟨w.heap.size, 2, none⟩ (.slice a' (q + 1) c')).setCell ⟨w.heap.size + 1 + 1, 0, none⟩ (.int .i64 s)).setCell ⟨w.heap.size + 1 + 1, 1, none⟩ (.int .i64 m)).setCell ⟨w.heap.size + 1 + 1, 2, none⟩ (.slice a' (q + 1) c') = V at *
  refine bodyPost_ret (v := .agg #[.int .i64 s, .int .i64 m, .slice a' (q + 1) c']) (by simp [results, Tryd.results57, go_sem, z0, z1, z2]) rfl ?_
  exact ⟨a', c', rfl, hWf, han, hfar, hbz⟩
end Go.Proofs.YtmkjmpkicmadcaaDoor

/- Contracts of package plate: With of valid shops. -/
namespace Go.Proofs.YtmkjmpkicmadcaaDoor
open Go.RowKit

set_option maxRecDepth 100000 in
set_option maxHeartbeats 4000000 in
theorem pWith_ok (s m : Int) (a : Option Addr) (q cap : Nat) (ha : Hid (a = none → cap = 0)) (L : List Pl.Wk) (hq : L.length = q) (hq2 : q ≤ 900) (x : Pl.Wk) (h1 : Pl.chk s m L = 0) (h2 : Pl.chk s m (L ++ [x]) = 0) (w : World) (hL : Hid (WksAt w a L)) :
    Calls Tryd.prog 32 #[.agg #[.int .i64 s, .int .i64 m, .slice a q cap], .agg #[.int .i64 x.a, .int .i64 x.b, .int .i64 x.t]] w fun e w' => ∃ a' c', e = .returned (.tuple #[.agg #[.int .i64 s, .int .i64 m, .slice a' (q + 1) c'], .int .i64 0]) ∧ Hid (WksAt w' a' (L ++ [x])) ∧ Hid (a' = none → c' = 0) ∧ Below w.heap.size w w' := by
  have HC := Lib.hid fun (W : World) (hb : Below w.heap.size w W) => (show Calls Tryd.prog 56 #[.agg #[.int .i64 s, .int .i64 m, .slice a q cap]] W fun e w' => e = .returned (.int .i64 0) ∧ Below W.heap.size W w' from by
    have h := pCheck_any s m a cap L W (Lib.hid (hL.out.below hb))
    rw [h1, hq] at h
    exact h)
  have hql : (L ++ [x]).length = q + 1 := by rw [List.length_append, hq]; rfl
  have HD := Lib.hid fun (W : World) (a' : Option Addr) (c' : Nat) (hW : Hid (WksAt W a' (L ++ [x]))) => (show Calls Tryd.prog 56 #[.agg #[.int .i64 s, .int .i64 m, .slice a' (q + 1) c']] W fun e w' => e = .returned (.int .i64 0) ∧ Below W.heap.size W w' from by
    have h := pCheck_any s m a' c' (L ++ [x]) W hW
    rw [h2, hql] at h
    exact h)
  have HW := Lib.hid fun (W : World) (hb : Below w.heap.size w W) => with_ok s m a q cap ha L hq hq2 x W (Lib.hid (hL.out.below hb))
  clear h1 h2 hql
  obtain ⟨xa, xb, xt⟩ := x
  simp only at *
  go_enter Tryd.func32, Tryd.ntmps32
  go_upto_region 1 with fail
  have k0 : (((w.alloc (Obj.cells #[.int .i64 s, .int .i64 m, .slice a q cap] 34)).alloc (Obj.cells #[.int .i64 xa, .int .i64 xb, .int .i64 xt] 69)).alloc (Obj.cells #[.int .i64 0, .int .i64 0, .slice none 0 0] 34)).cell? ⟨w.heap.size, 0, none⟩ = some (.int .i64 s) := by simp [go_sem]
  have k1 : (((w.alloc (Obj.cells #[.int .i64 s, .int .i64 m, .slice a q cap] 34)).alloc (Obj.cells #[.int .i64 xa, .int .i64 xb, .int .i64 xt] 69)).alloc (Obj.cells #[.int .i64 0, .int .i64 0, .slice none 0 0] 34)).cell? ⟨w.heap.size, 1, none⟩ = some (.int .i64 m) := by simp [go_sem]
  have k2 : (((w.alloc (Obj.cells #[.int .i64 s, .int .i64 m, .slice a q cap] 34)).alloc (Obj.cells #[.int .i64 xa, .int .i64 xb, .int .i64 xt] 69)).alloc (Obj.cells #[.int .i64 0, .int .i64 0, .slice none 0 0] 34)).cell? ⟨w.heap.size, 2, none⟩ = some (.slice a q cap) := by simp [go_sem]
  have e0 : (((w.alloc (Obj.cells #[.int .i64 s, .int .i64 m, .slice a q cap] 34)).alloc (Obj.cells #[.int .i64 xa, .int .i64 xb, .int .i64 xt] 69)).alloc (Obj.cells #[.int .i64 0, .int .i64 0, .slice none 0 0] 34)).cell? ⟨w.heap.size + 1, 0, none⟩ = some (.int .i64 xa) := by simp [go_sem]
  have e1 : (((w.alloc (Obj.cells #[.int .i64 s, .int .i64 m, .slice a q cap] 34)).alloc (Obj.cells #[.int .i64 xa, .int .i64 xb, .int .i64 xt] 69)).alloc (Obj.cells #[.int .i64 0, .int .i64 0, .slice none 0 0] 34)).cell? ⟨w.heap.size + 1, 1, none⟩ = some (.int .i64 xb) := by simp [go_sem]
  have e2 : (((w.alloc (Obj.cells #[.int .i64 s, .int .i64 m, .slice a q cap] 34)).alloc (Obj.cells #[.int .i64 xa, .int .i64 xb, .int .i64 xt] 69)).alloc (Obj.cells #[.int .i64 0, .int .i64 0, .slice none 0 0] 34)).cell? ⟨w.heap.size + 1, 2, none⟩ = some (.int .i64 xt) := by simp [go_sem]
  have hr : (((w.alloc (Obj.cells #[.int .i64 s, .int .i64 m, .slice a q cap] 34)).alloc (Obj.cells #[.int .i64 xa, .int .i64 xb, .int .i64 xt] 69)).alloc (Obj.cells #[.int .i64 0, .int .i64 0, .slice none 0 0] 34)).rowIs (w.heap.size + 1 + 1) 34 3 (fun i => if i = 2 then .slice none 0 0 else .int .i64 0) := by
    have h := World.rowIs_alloc ((w.alloc (Obj.cells #[.int .i64 s, .int .i64 m, .slice a q cap] 34)).alloc (Obj.cells #[.int .i64 xa, .int .i64 xb, .int .i64 xt] 69)) #[.int .i64 0, .int .i64 0, .slice none 0 0] 34 (fun i => if i = 2 then .slice none 0 0 else .int .i64 0) (fun i hi => by
      match i, hi with
      | 0, _ => rfl
      | 1, _ => rfl
      | 2, _ => rfl)
    simpa using h
  have hX : Below w.heap.size w (((w.alloc (Obj.cells #[.int .i64 s, .int .i64 m, .slice a q cap] 34)).alloc (Obj.cells #[.int .i64 xa, .int .i64 xb, .int .i64 xt] 69)).alloc (Obj.cells #[.int .i64 0, .int .i64 0, .slice none 0 0] 34)) := below_alloc (below_alloc (below_alloc (Below.refl _ _) _) _) _
  generalize ((w.alloc (Obj.cells #[.int .i64 s, .int .i64 m, .slice a q cap] 34)).alloc (Obj.cells #[.int .i64 xa, .int .i64 xb, .int .i64 xt] 69)).alloc (Obj.cells #[.int .i64 0, .int .i64 0, .slice none 0 0] 34) = X at *
  go_wp2_with fail
  refine (HC.out _ hX).mono ?_
  rintro e w1 ⟨rfl, hb1⟩
  replace k0 := kept1 k0 hb1
  replace k1 := kept1 k1 hb1
  replace k2 := kept1 k2 hb1
  replace e0 := kept1 e0 hb1
  replace e1 := kept1 e1 hb1
  replace e2 := kept1 e2 hb1
  replace hr := Below.row' hb1 hr
  have hb2 := hX.trans (hb1.mono hX.size)
  have hr0 := hr
  clear hb1 hX HC X
  go_wp2_with fail
  refine (HW.out _ hb2).mono ?_
  rintro e w2 ⟨a', c', rfl, hW, han, hfar, hb3⟩
  replace hr := Below.row' hb3 hr
  have hb4 := hb2.trans (hb3.mono hb2.size)
  clear k0 k1 k2 e0 e1 e2 hb3 HW
  go_upto_region 5 with fail
  have hba := below_alloc (Below.refl w2.heap.size w2) (Obj.cells #[.int .i64 s, .int .i64 m, .slice a' (q + 1) c'] 34)
  have k0 : (w2.alloc (Obj.cells #[.int .i64 s, .int .i64 m, .slice a' (q + 1) c'] 34)).cell? ⟨w2.heap.size, 0, none⟩ = some (.int .i64 s) := by simp [go_sem]
  have k1 : (w2.alloc (Obj.cells #[.int .i64 s, .int .i64 m, .slice a' (q + 1) c'] 34)).cell? ⟨w2.heap.size, 1, none⟩ = some (.int .i64 m) := by simp [go_sem]
  have k2 : (w2.alloc (Obj.cells #[.int .i64 s, .int .i64 m, .slice a' (q + 1) c'] 34)).cell? ⟨w2.heap.size, 2, none⟩ = some (.slice a' (q + 1) c') := by simp [go_sem]
  have hW2 := Lib.hid (hW.out.below hba)
  replace hr := Below.row' hba hr
  have hb5 := hb4.trans (hba.mono hb4.size)
  clear hba hb4 hb2 hW
  generalize w2.alloc (Obj.cells #[.int .i64 s, .int .i64 m, .slice a' (q + 1) c'] 34) = Y at *
  go_wp2_with fail
  refine (HD.out _ _ _ hW2).mono ?_
  rintro e w3 ⟨rfl, hb6⟩
  replace k0 := kept1 k0 hb6
  replace k1 := kept1 k1 hb6
  replace k2 := kept1 k2 hb6
  replace hr := Below.row' hb6 hr
  have hb7 := hb5.trans (hb6.mono hb5.size)
  have hW3 := hW2.out.below hb6
  have r0 := hr.cell (i := 0) (by omega)
  have r1 := hr.cell (i := 1) (by omega)
  have r2 := hr.cell (i := 2) (by omega)
  have f0 := hr.frozen 0
  have f1 := hr.frozen 1
  have f2 := hr.frozen 2
  simp only [if_true, if_false, Nat.succ_ne_self, Nat.reduceEqDiff] at r0 r1 r2
  have z := ((hr.set 0 (.int .i64 s)).set 1 (.int .i64 m)).set 2 (.slice a' (q + 1) c')
  have z0 := z.cell (i := 0) (by omega)
  have z1 := z.cell (i := 1) (by omega)
  have z2 := z.cell (i := 2) (by omega)
  simp only [if_true, if_false, Nat.succ_ne_self, Nat.reduceEqDiff] at z0 z1 z2
  clear z hW2 hb5 hb6
  have hbf : But (fun k => k = w.heap.size + 1 + 1) w3 (((w3.setCell ⟨w.heap.size + 1 + 1, 0, none⟩ (.int .i64 s)).setCell ⟨w.heap.size + 1 + 1, 1, none⟩ (.int .i64 m)).setCell ⟨w.heap.size + 1 + 1, 2, none⟩ (.slice a' (q + 1) c')) := (((But.refl (fun k => k = w.heap.size + 1 + 1) w3).setCell (p := ⟨w.heap.size + 1 + 1, 0, none⟩) (.inr rfl) _).setCell (p := ⟨w.heap.size + 1 + 1, 1, none⟩) (.inr rfl) _).setCell (p := ⟨w.heap.size + 1 + 1, 2, none⟩) (.inr rfl) _
  have hz1 : w.heap.size + 1 + 1 < w1.heap.size := by have := hr0.lt; omega
  have hWf : Hid (WksAt (((w3.setCell ⟨w.heap.size + 1 + 1, 0, none⟩ (.int .i64 s)).setCell ⟨w.heap.size + 1 + 1, 1, none⟩ (.int .i64 m)).setCell ⟨w.heap.size + 1 + 1, 2, none⟩ (.slice a' (q + 1) c')) a' (L ++ [⟨xa, xb, xt⟩])) := Lib.hid (fun k hk => by
    obtain ⟨y, rfl, h1, h2, h3⟩ := hW3 k hk
    have hy := hfar.out y rfl
    have hyb : (y.add (k * 3)).block = y.block := by unfold Addr.add; split <;> rfl
    refine ⟨y, rfl, hbf.kept h1 (fun e => ?_), hbf.kept h2 (fun e => ?_), hbf.kept h3 (fun e => ?_)⟩ <;> (simp only [hyb] at e; omega))
  have hbz := hb7.trans (hbf.below hb7.size (fun k hk e => by omega))
  clear hW3 hb7 hbf HD hr hr0
  go_wp2
  generalize ((w3.setCell ⟨w.heap.size + 1 + 1, 0, none⟩ (.int .i64 s)).setCell ⟨w.heap.size + 1 + 1, 1, none⟩ (.int .i64 m)).setCell ⟨w.heap.size + 1 + 1, 2, none⟩ (.slice a' (q + 1) c') = V at *
  refine bodyPost_ret (v := .tuple #[.agg #[.int .i64 s, .int .i64 m, .slice a' (q + 1) c'], .int .i64 0]) (by simp [results, Tryd.results32, go_sem, z0, z1, z2]) rfl ?_
  exact ⟨a', c', rfl, hWf, han, hbz⟩
end Go.Proofs.YtmkjmpkicmadcaaDoor

/- A region that draws its order and only reads, inside a round. -/
namespace Go.Proofs.YtmkjmpkicmadcaaDoor
open Go.RowKit

variable {F : Fence} {n : Nat} {P : Program} {Q : Exit → Act → World → Prop} {a : Act} {w : World} {l : Nat}

theorem oper_round {o : Oper} {K : Act → World → Prop} (hro : F.round = none) (hd : ∀ c, o.op ≠ .defer c) (h : o.wpIn F n P a w K Q) : o.wpIn (F.inRound l) n P a w K Q := by
  unfold Oper.wpIn at h ⊢
  refine ⟨h.1, ?_⟩
  have e : o.semAt (F.inRound l).round a.eval = o.semAt F.round a.eval := by
    rw [Fence.inRound_round, hro, Oper.semAt_some l _ _ hd]; rfl
  rw [e]
  have h2 := h.2
  generalize (o.semAt F.round a.eval).run P w = r at h2 ⊢
  cases r with
  | ok x w' => cases x <;> exact h2
  | halt x w' => cases x <;> exact h2

theorem op_round {ops : Array Oper} {i : Nat} {K K' : Act → World → Prop} (hro : F.round = none) (hd : ∀ (i : Nat) (o : Oper), ops[i]? = some o → ∀ c, o.op ≠ .defer c) (hK : ∀ a w, K a w → K' a w) (h : wpOpIn F n P ops Q i K a w) : wpOpIn (F.inRound l) n P ops Q i K' a w := by
  have h := wpOpIn_mono hK h
  unfold wpOpIn at h ⊢
  cases ho : ops[i]? with
  | none => simp only [ho] at h ⊢; exact h
  | some o =>
    simp only [ho] at h ⊢
    split
    · rename_i hw
      simp only [hw, if_true] at h
      exact oper_round hro (hd i o ho) h
    · rename_i hw
      simp only [hw] at h
      exact h

theorem any_round {md : Region.Mode} {ops : Array Oper} (hro : F.round = none) (hd : ∀ (i : Nat) (o : Oper), ops[i]? = some o → ∀ c, o.op ≠ .defer c) : ∀ (fuel : Nat) (listed : Array Bool) (a : Act) (w : World), wpAnyIn F n P md ops Q fuel listed a w → wpAnyIn (F.inRound l) n P md ops Q fuel listed a w
  | 0, _, _, _, h => h
  | fuel + 1, _, _, _, h => ⟨h.1, fun i hi => op_round hro hd (fun a w h => any_round hro hd fuel _ a w h) (h.2 i hi)⟩

/-- no operation of a list is a 'defer' -/
def noDefer (ops : List Oper) : Bool := ops.all fun o => match o.op with | .defer _ => false | _ => true
theorem noDefer_spec {ops : List Oper} (h : noDefer ops = true) : ∀ (i : Nat) (o : Oper), ops.toArray[i]? = some o → ∀ c, o.op ≠ .defer c := by
  intro i o ho c e
  unfold noDefer at h
  rw [List.all_eq_true] at h
  have hm : o ∈ ops := by
    have : ops[i]? = some o := by simpa using ho
    exact List.mem_of_getElem? this
  have := h o hm
  rw [e] at this
  cases this

/-- a quiet region inside a round: one walk serves every order -/
theorem quiet_round {id : Nat} {ops : List Oper} (hro : F.round = none) (hd : noDefer ops = true) (hm : P.follows .mixedOrders = true) (hB : Region.lexB .any ops.toArray = true)
    (h : wpQuietIn F n P ops.toArray (fun w' => ∃ k, w' = w.drewN k) (fun a' => ∀ w', (∃ k, w' = w.drewN k) → Q .normal a' w') ops a) : (Code.region id ops.toArray true).wpIn (F.inRound l) n P Q a w := by
  simp only [Region.lexB, Bool.and_eq_true] at hB
  refine wpIn_region_any hm (any_round hro (noDefer_spec hd) _ _ _ _ ?_)
  refine wpAnyIn_of_quiet (C := fun w' => ∃ k, w' = w.drewN k) (Q := fun a' => ∀ w', (∃ k, w' = w.drewN k) → Q .normal a' w') hro (fun _ w' hw' h => h w' hw') _ _ _ _ ⟨1, rfl⟩ ?_
  have := wpAnyQIn_lex (F := F) (n := n) (C := fun w' => ∃ k, w' = w.drewN k) (md := .any) hB.1 ops 0 (Array.replicate ops.toArray.size false) a (by simp) (by simpa using hB.2) h
  simpa using this
end Go.Proofs.YtmkjmpkicmadcaaDoor

/- A region that draws its order, reads first and stores last, inside a round. -/
namespace Go.Proofs.YtmkjmpkicmadcaaDoor
open Go.RowKit

variable {n : Nat} {P : Program} {Q : Exit → Act → World → Prop} {a : Act} {w : World}

theorem rows_wide {row : String} {args : Array Value} {R : Value → World → Prop} (h : Rows P row args w R) : RowsIn Fence.wide n P row args w R := fun c cs _ =>
  let ⟨v, w', r, s⟩ := h c cs
  ⟨v, w', r, stepsIn_wide.2 s⟩

/-- an operation that is walked at no fence, walked at the wide one -/
theorem oper_wide {o : Oper} {K : Act → World → Prop} (h : o.wp P a w K Q) : o.wpIn Fence.wide n P a w K Q := by
  refine ⟨fun _ _ => trivial, ?_⟩
  unfold Oper.wp at h
  show o.uponIn Fence.wide n P a K Q ((execOp a.eval o).run P w)
  generalize (execOp a.eval o).run P w = r at h ⊢
  cases r with
  | ok x w' =>
    cases x with
    | enter f args => exact ⟨fun h => by simp [Fence.wide] at h, callsIn_wide.2 h⟩
    | row row args => exact ⟨fun h => by simp [Fence.wide] at h, rows_wide h⟩
    | _ => first | exact h | exact h.elim
  | halt x w' => cases x <;> first | exact h | exact h.elim

theorem any_wide {md : Region.Mode} {ops : Array Oper} (hQ : ¬ LetsOut Q) : ∀ (fuel : Nat) (listed : Array Bool) (a : Act) (w : World), wpAny P md ops Q fuel listed a w → wpAnyIn Fence.wide n P md ops Q fuel listed a w
  | 0, _, _, _, h => h
  | fuel + 1, listed, a, w, h => ⟨h.1, fun i hi => by
    have h2 := h.2 i hi
    unfold wpOp at h2
    unfold wpOpIn
    cases ho : ops[i]? with
    | none => simp only [ho] at h2 ⊢; exact any_wide hQ fuel _ _ _ h2
    | some o =>
      simp only [ho] at h2 ⊢
      split
      · rename_i hw
        simp only [hw, if_true] at h2
        exact Oper.wpIn_mono (fun a w h => any_wide hQ fuel _ a w h) (oper_wide (h2.resolve_right (fun h => hQ h.2)))
      · rename_i hw
        simp only [hw] at h2
        exact ⟨fun _ _ => trivial, any_wide hQ fuel _ _ _ h2⟩⟩

/-- reads first, then stores: one walk serves every order, inside a round -/
theorem tail_round {id r k : Nat} {ops : List Oper} (m : Nat) (hQ : ¬ LetsOut Q) (hd : noDefer ops = true) (hm : P.follows .mixedOrders = true) (hB : Region.lexTailB .any ops.toArray m = true)
    (h : wpStill P ops.toArray { w with drawn := w.drawn + 1 } (fun a' => wpList P ops.toArray Q (ops.drop m) a' { w with drawn := w.drawn + 1 }) (ops.take m) a) : (Code.region id ops.toArray true).wpIn (Fence.wide.inRound r) k P Q a w := by
  simp only [Region.lexTailB, Bool.and_eq_true, decide_eq_true_eq] at hB
  obtain ⟨⟨⟨⟨h1, h2⟩, h3⟩, h4⟩, h5⟩ := hB
  have h6 : m < ops.length := by simpa using h2
  have h7 : (ops.take m).length = m := by simp; omega
  have h8 : (ops.drop m).length = ops.toArray.size - m := by simp
  have H := wpAnyL_lex (md := .any) (g := ops.toArray.size - m) h1 h3 h4 h2 (ops.take m) 0 (Array.replicate ops.toArray.size false) a (fun j hj => by
    have : j < m := by rw [h7] at hj; exact hj
    simp [this]) (by simpa using h7) ⟨by simp, fun j oj _ hl => (by rw [getD_replicate_false] at hl; cases hl), fun t _ ht => getD_in (by simpa using ht) (getD_replicate_false _ _)⟩ (by rw [h7]; exact h5) h
  have K := wpAny_of_head (Q' := Q) (g := ops.toArray.size - m) (fun listed a' hL => by
    have e := wpAny_of_seq (md := .any) (Q' := Q) (ops.drop m) m listed a' { w with drawn := w.drawn + 1 } (fun j => by simp [List.getElem?_drop]) (by rw [h8]; exact hL.1) hL.2
    rwa [h8] at e) _ _ _ H
  rw [h7, show m + (ops.toArray.size - m) = ops.toArray.size by omega] at K
  exact wpIn_region_any hm (any_round rfl (noDefer_spec hd) _ _ _ _ (any_wide hQ _ _ _ _ K))
/-- any order, a condition on the world kept behind each operation, inside a round -/
theorem held_round {id r k : Nat} {ops : List Oper} (S : World → Prop) (hQ : ¬ LetsOut Q) (hd : noDefer ops = true) (hm : P.follows .mixedOrders = true) (hS : S w.drew)
    (h : S w.drew → wpAnyH P .any ops.toArray Q S ops.toArray.size (Array.replicate ops.toArray.size false) a w.drew) : (Code.region id ops.toArray true).wpIn (Fence.wide.inRound r) k P Q a w :=
  wpIn_region_any hm (any_round rfl (noDefer_spec hd) _ _ _ _ (any_wide hQ _ _ _ _ (wpAny_of_held _ _ _ _ (h hS))))
end Go.Proofs.YtmkjmpkicmadcaaDoor

/- A table of heights: rows of one's own, and a row of them; made, and written. -/
namespace Go.Proofs.YtmkjmpkicmadcaaDoor
open Go.RowKit

theorem run_makeP {P : Program} (t e : TypeId) (z : Value) (size bytes : Nat) (cs : Array Value) (ht : P.underlying t = some (.slice e)) (hinfo : (P.info? e).map (fun i => (i.zero, i.size, i.bytes)) = some (some z, size, bytes)) (hcs : z.cells = cs)
    (kl kc : IntKind) (n : Nat) (hbytes : bytes * n ≤ 281474976710656) (h63 : n ≤ 9223372036854775807) (w : World) :
    (Instr.makeSlice t (.int kl (n : Int)) (.int kc (n : Int))).run P w = .ok (.slice (some ⟨w.heap.size, 0, none⟩) n n) (w.alloc (.cells (madeCells cs (n * size)) e)) := by
  obtain ⟨i, hi, hz, hs, hb⟩ := info_parts hinfo
  have hb' : (i.bytes : Int) * (n : Int) ≤ 281474976710656 := by
    have h : ((i.bytes * n : Nat) : Int) ≤ 281474976710656 := by rw [hb]; omega
    rwa [Int.natCast_mul] at h
  have hr := run_make (P := P) w t e i z ht hi hz kl kc n n (by omega) (Int.le_refl _) hb' (by omega)
  simp only [Int.toNat_natCast, hs, hcs] at hr
  exact hr
theorem rowIs_made (w : World) (v : Value) (n : Nat) (t : TypeId) : (w.alloc (.cells (madeCells #[v] n) t)).rowIs w.heap.size t n (fun _ => v) := by
  have h := World.rowIs_alloc w (madeCells #[v] n) t (fun _ => v) (fun i hi => by
    rw [size_madeCells] at hi
    unfold madeCells
    rw [Array.getElem?_map, Array.getElem?_range, if_pos hi]
    have e : i % 1 = 0 := Nat.mod_one i
    simp [e])
  rw [size_madeCells] at h
  exact h
theorem infoInts : (Tryd.prog.info? 35).map (fun i => (i.zero, i.size, i.bytes)) = some (some (.slice none 0 0), 1, 24) := by kernel_rfl
theorem mkInts (n : Nat) (hn : n ≤ 100000) (w : World) : (Instr.makeSlice 35 (.int .i64 (n : Int)) (.int .i64 (n : Int))).run Tryd.prog w = .ok (.slice (some ⟨w.heap.size, 0, none⟩) n n) (w.alloc (.cells (madeCells #[.int .i64 0] n) 3)) := by
  have h := run_makeP (P := Tryd.prog) 35 3 _ 1 8 #[.int .i64 0] Tryd.underlying35 infoI64 rfl .i64 .i64 n (by omega) (by omega) w
  rwa [Nat.mul_one] at h
theorem mkTable (n : Nat) (hn : n ≤ 100000) (w : World) : (Instr.makeSlice 63 (.int .i64 (n : Int)) (.int .i64 (n : Int))).run Tryd.prog w = .ok (.slice (some ⟨w.heap.size, 0, none⟩) n n) (w.alloc (.cells (madeCells #[.slice none 0 0] n) 35)) := by
  have h := run_makeP (P := Tryd.prog) 63 35 _ 1 24 #[.slice none 0 0] Tryd.underlying63 infoInts rfl .i64 .i64 n (by omega) (by omega) w
  rwa [Nat.mul_one] at h

/-- rows of heights below k, behind a row of slices -/
structure MX (B : Nat) (W : World) (pb m N k : Nat) (rb : Nat → Nat) (P : Nat → Nat → Int) : Prop where
  p : W.rowIs pb 35 m (fun i => if i < k then .slice (some ⟨rb i, 0, none⟩) N N else .slice none 0 0)
  r : ∀ i, i < k → W.rowIs (rb i) 3 N (fun c => .int .i64 (P i c))
  d : ∀ i j, i < k → j < k → rb i = rb j → i = j
  q : ∀ i, i < k → B ≤ rb i
  g : pb < B
theorem MX.but {T : Nat → Prop} {B : Nat} {W W' : World} {pb m N k : Nat} {rb : Nat → Nat} {P : Nat → Nat → Int} (h : MX B W pb m N k rb P) (hb : But T W W') (h1 : ¬ T pb) (h2 : ∀ i, i < k → ¬ T (rb i)) : MX B W' pb m N k rb P :=
  ⟨hb.row h.p h1, fun i hi => hb.row (h.r i hi) (h2 i hi), h.d, h.q, h.g⟩
theorem MX.below {B : Nat} {W W' : World} {pb m N k : Nat} {rb : Nat → Nat} {P : Nat → Nat → Int} (h : MX B W pb m N k rb P) (hb : Below W.heap.size W W') : MX B W' pb m N k rb P :=
  h.but (T := fun _ => False) ((But.of_below hb).mono (fun _ _ h => h)) id (fun _ _ h => h)
theorem MX.start (W : World) (B m N : Nat) (hB : W.heap.size < B) (rb : Nat → Nat) (P : Nat → Nat → Int) : MX B (W.alloc (.cells (madeCells #[.slice none 0 0] m) 35)) W.heap.size m N 0 rb P :=
  ⟨(rowIs_made W _ m _).congr (fun i _ => by simp), fun i hi => by omega, fun i j hi => by omega, fun i hi => by omega, hB⟩
/-- one more row -/
theorem MX.more {B : Nat} {W : World} {pb m N k : Nat} {rb : Nat → Nat} (h : MX B W pb m N k rb (fun _ _ => 0)) (hk : k < m) (hBW : B ≤ W.heap.size) : MX B ((W.alloc (.cells (madeCells #[.int .i64 0] N) 3)).setCell ⟨pb, k, none⟩ (.slice (some ⟨W.heap.size, 0, none⟩) N N)) pb m N (k + 1) (fun i => if i = k then W.heap.size else rb i) (fun _ _ => 0) := by
  have hA := h.below (below_alloc (Below.refl W.heap.size W) (Obj.cells (madeCells #[.int .i64 0] N) 3))
  have hp := h.p.lt
  have hr : ∀ i, i < k → rb i < W.heap.size := fun i hi => (h.r i hi).lt
  have hs : But (fun g => g = pb) (W.alloc (.cells (madeCells #[.int .i64 0] N) 3)) ((W.alloc (.cells (madeCells #[.int .i64 0] N) 3)).setCell ⟨pb, k, none⟩ (.slice (some ⟨W.heap.size, 0, none⟩) N N)) := (But.refl (fun g => g = pb) _).setCell (p := ⟨pb, k, none⟩) (.inr rfl) _
  refine ⟨(hA.p.set k _).congr (fun i _ => ?_), fun i hi => ?_, fun i j hi hj e => ?_, fun i hi => ?_, h.g⟩
  · by_cases e : i = k
    · subst e
      simp
    · by_cases e2 : i < k
      · simp [e, e2, show i < k + 1 by omega]
      · simp [e, e2, show ¬ i < k + 1 by omega]
  · by_cases e : i = k
    · subst e
      simp only [if_true]
      exact hs.row (rowIs_made W _ N _) (by omega)
    · simp only [e, if_false]
      exact hs.row (hA.r i (by omega)) (fun e2 => by have := h.q i (by omega); have := h.g; omega)
  · by_cases e1 : i = k
    · by_cases e2 : j = k
      · omega
      · simp only [e1, e2, if_true, if_false] at e
        have := hr j (by omega)
        omega
    · by_cases e2 : j = k
      · simp only [e1, e2, if_true, if_false] at e
        have := hr i (by omega)
        omega
      · simp only [e1, e2, if_false] at e
        exact h.d i j (by omega) (by omega) e
  · by_cases e : i = k
    · simp only [e, if_true]
      omega
    · simp only [e, if_false]
      exact h.q i (by omega)
/-- a height is written -/
theorem MX.put {B : Nat} {W : World} {pb m N k : Nat} {rb : Nat → Nat} {P : Nat → Nat → Int} (h : MX B W pb m N k rb P) {q : Nat} (hq : q < k) (y : Nat) (v : Int) : MX B (W.setCell ⟨rb q, y, none⟩ (.int .i64 v)) pb m N k rb (Pl.pcs P q y v) := by
  have hs : But (fun g => g = rb q) W (W.setCell ⟨rb q, y, none⟩ (.int .i64 v)) := (But.refl (fun g => g = rb q) W).setCell (p := ⟨rb q, y, none⟩) (.inr rfl) _
  refine ⟨hs.row h.p (fun e => by have := h.q q hq; have := h.g; omega), fun i hi => ?_, h.d, h.q, h.g⟩
  by_cases e : i = q
  · subst e
    refine ((h.r i hi).set y _).congr (fun c _ => ?_)
    unfold Pl.pcs
    by_cases e : c = y <;> simp [e]
  · refine (hs.row (h.r i hi) (fun e2 => e (h.d i q hi hq e2))).congr (fun c _ => ?_)
    unfold Pl.pcs
    simp [e]
theorem MX.keeps {B : Nat} {W W' : World} {pb m N k : Nat} {rb : Nat → Nat} {P : Nat → Nat → Int} (h : MX B W pb m N k rb P) {q : Nat} (hq : q < k) (hb : But (fun g => g = rb q) W W') : KeepsOthers W W' :=
  ⟨hb.size, fun k o hk ho => by
    have hne : ¬ k = rb q := fun e => by
      obtain ⟨cs, h1, _⟩ := h.r q hq
      rw [e, h1] at hk
      obtain rfl := Option.some.inj hk
      cases ho
    exact (hb.block k (Array.getElem?_eq_some_iff.1 hk).1 hne).trans hk⟩
end Go.Proofs.YtmkjmpkicmadcaaDoor

/- slices.Concat of two lists of signs. -/
namespace Go.Proofs.YtmkjmpkicmadcaaDoor
open Go.RowKit Go.Lib Go.Shelf

set_option maxRecDepth 100000 in
set_option maxHeartbeats 4000000 in
theorem growSg_any (n : Nat) (hn : n ≤ 100000) (w : World) :
    Calls Tryd.prog 76 #[.slice none 0 0, .int .i64 (n : Int)] w fun e w' => ∃ v, e = .returned v ∧ w'.ownsRow w.heap.size 38 2 v 0 [] ∧ Below w.heap.size w w' := by
  obtain ⟨i0, hi, hz0, hz1, hz2⟩ := info_parts infoSg
  by_cases h0 : n = 0
  · subst h0
    go_enter Tryd.func76, Tryd.ntmps76
    go_wp2
    go_ret
    exact ⟨_, rfl, World.ownsRow_nil _ _ _ _, Below.refl _ _⟩
  · have hrz : ∀ ty, (Builtin.append_ #[57, 3] ty #[.slice none 0 0, .int .i64 (n : Int)]).run Tryd.prog w =
        .ok (.slice (some ⟨w.heap.size, 0, none⟩) n (grownCap w n 0 38)) (w.drew.alloc (.cells (#[] ++ Builtin.zeroCells (.agg #[.int .i64 0, .bool false] : Value).cells n ++ Builtin.zeroCells (.agg #[.int .i64 0, .bool false] : Value).cells (grownCap w n 0 38 - n)) 38)) := fun ty => by
      have h := Lib.run_append_grow_zeros w 57 3 ty 38 i0 _ .i64 .i64 Tryd.underlying57 Tryd.underlying3 hi hz0 none 0 0 [] (run_firstCells_none w.drew i0.size 0 0 0) n (by omega) (by rw [hz1]; decide) (by omega) (by omega) (by rw [hz2]; omega) (growslice_fits (by omega) (by rw [hz2]; omega))
      rw [Nat.zero_add] at h
      exact h
    have hge := grownCap_ge w n 0 38
    have hG63 := grownCap_le_maxLen w n 0 38 (by unfold maxLen; omega)
    have hG64 : grownCap w n 0 38 ≤ 9223372036854775807 := by unfold maxLen at hG63; omega
    have hown : (w.drew.alloc (.cells (#[] ++ Builtin.zeroCells (.agg #[.int .i64 0, .bool false] : Value).cells n ++ Builtin.zeroCells (.agg #[.int .i64 0, .bool false] : Value).cells (grownCap w n 0 38 - n)) 38)).ownsRow w.heap.size 38 2 (.slice (some ⟨w.heap.size, 0, none⟩) 0 (grownCap w n 0 38)) 0 [] := by
      refine owns_new2 w.drew _ _ _ _ ?_ hG63
      have e3 : (Value.agg #[.int .i64 0, .bool false]).cells.size = 2 := rfl
      rw [Array.size_append, Array.size_append, size_zeroCells, size_zeroCells, e3]
      show 0 + _ + (grownCap w n 0 38 - n) * 2 = grownCap w n 0 38 * 2
      omega
    have hbel : Below w.heap.size w (w.drew.alloc (.cells (#[] ++ Builtin.zeroCells (.agg #[.int .i64 0, .bool false] : Value).cells n ++ Builtin.zeroCells (.agg #[.int .i64 0, .bool false] : Value).cells (grownCap w n 0 38 - n)) 38)) := ((Below.refl _ _).drew).alloc (Nat.le_refl _) _
    generalize w.drew.alloc (.cells (#[] ++ Builtin.zeroCells (.agg #[.int .i64 0, .bool false] : Value).cells n ++ Builtin.zeroCells (.agg #[.int .i64 0, .bool false] : Value).cells (grownCap w n 0 38 - n)) 38) = W' at *
    generalize grownCap w n 0 38 = G at *
    have h4 : (0 : Int) < (n : Int) := by omega
    have hown2 := Lib.hid hown
    clear hown
    go_enter Tryd.func76, Tryd.ntmps76
    go_wp2_with (at_builtin; refine Lib.wpList_append_run _ rfl _ _ _ _ rfl _ _ rfl rfl _ _ (hrz _) ?_)
    go_ret
    exact ⟨_, rfl, hown2.out, hbel⟩

/-- append of cells that lie in a row, to cells of one's own -/
theorem wpList_append_csSg {w : World} {ops : Array Oper} {rest : List Oper} {o : Oper} {a : Act} {Q : Exit → Act → World → Prop} (hgd : o.guard = none) (s x : Operand)
    (ho : o.op = .call { callee := .builtin .append, args := #[s, x], argTypes := #[57, 57] })
    (base : Nat) (v : Value) (n : Nat) (pre : List Value) (hs : a.eval s = v) (hown : w.ownsRow base 38 2 v n pre)
    (b : Option Addr) (m cap : Nat) (cs : List Value) (hm : cs.length = m * 2) (hone : ∀ u ∈ cs, u.oneCell' = true) (hx : a.eval x = .slice b m cap) (hL : CsAt w b cs) (hb : b = none → cap = 0)
    (h9 : n + m ≤ 100000) (hbase : base ≤ w.heap.size)
    (h : ∀ v' w', w'.ownsRow base 38 2 v' (n + m) (pre ++ cs) → w.grownBy w' v.ownBlock → wpList Tryd.prog ops Q rest (a.put o.dst v') w') : wpList Tryd.prog ops Q (o :: rest) a w := by
  obtain ⟨i0, hi, hz0, hz1, hz2⟩ := info_parts infoSg
  cases b with
  | none =>
    have h0 := hb rfl
    subst h0
    obtain rfl := hL.none
    obtain rfl : m = 0 := by simp at hm; omega
    refine wpList_append_own_none hgd s x 57 ho base 38 i0 2 Tryd.underlying57 hi v n _ hs hown hx ?_
    refine h v w ?_ (grownBy_refl2 _ _)
    rw [List.append_nil]
    exact hown
  | some ad =>
    refine wpList_append_own _ hgd s x 57 ho base 38 i0 _ 2 16 Tryd.underlying57 hi hz0 hz1 hz2 rfl (by decide) v n _ hs hown ad m cap cs hx hm (fun j u hu => by
      obtain ⟨y, hy, hc⟩ := hL j u hu
      obtain rfl := Option.some.inj hy
      exact hc) hone ?_ ?_ hbase ?_
    · unfold maxLen; omega
    · omega
    · intro v' w' h1 h2 _
      exact h v' w' h1 h2

set_option maxRecDepth 100000 in
set_option maxHeartbeats 4000000 in
theorem concatSg_any (ab : Nat) (a b : Option Addr) (m q cap cap2 : Nat) (hm9 : m ≤ 1000) (hq9 : q ≤ 1000) (L L2 : List Value) (hm : Hid (L.length = m * 2)) (hq : Hid (L2.length = q * 2)) (hu : Hid (∀ u ∈ L, u.oneCell' = true)) (hu2 : Hid (∀ u ∈ L2, u.oneCell' = true)) (ha : Hid (a = none → cap = 0)) (hb : Hid (b = none → cap2 = 0)) (w : World) (hL : Hid (CsAt w a L)) (hL2 : Hid (CsAt w b L2)) (c0 : w.cell? ⟨ab, 0, none⟩ = some (.slice a m cap)) (c1 : w.cell? ⟨ab, 1, none⟩ = some (.slice b q cap2)) :
    Calls Tryd.prog 61 #[.slice (some ⟨ab, 0, none⟩) 2 2] w fun e w' => ∃ v, e = .returned v ∧ Hid (w'.ownsRow w.heap.size 38 2 v (m + q) (L ++ L2)) ∧ Below w.heap.size w w' := by
  have HG := Lib.hid (growSg_any (m + q) (by omega) w)
  go_enter Tryd.func61, Tryd.ntmps61
  go_wp2
  go_loopw [11, 3] (fun i s wr => ∃ k : Nat, k ≤ 2 ∧ i = .int .i64 k ∧ s = .int .i64 ((if k = 0 then 0 else if k = 1 then m else m + q : Nat) : Int) ∧ w = wr) (fun i _ _ => 2 - (RowKit.intOf i).toNat)
  case atStart => exact ⟨0, by omega, rfl, rfl, rfl⟩
  case round =>
    obtain ⟨k, hk, rfl, rfl, rfl⟩ := hrel
    rcases (by omega : k = 0 ∨ k = 1 ∨ k = 2) with rfl | rfl | rfl
    · go_wp2
      go_roundw
      case rel => exact ⟨1, by omega, by go_num, by first | rfl | go_num, by first | rfl | trivial⟩
      case measure => decide
    · go_wp2
      go_roundw
      case rel => exact ⟨2, by omega, by go_num, by first | rfl | go_num, by first | rfl | trivial⟩
      case measure => decide
    · go_wp2_with fail
      refine HG.out.mono ?_
      rintro e w1 ⟨v, rfl, hown, hb1⟩
      have hS := Lib.hid (CcR.mk hown hb1)
      have d0 := kept1 c0 hb1
      have d1 := kept1 c1 hb1
      have hL' := Lib.hid (hL.out.below hb1)
      have hL2' := Lib.hid (hL2.out.below hb1)
      clear HG hown hb1
      go_wp2
      go_loopw [27, 6] (fun i v W => ∃ k : Nat, k ≤ 2 ∧ i = .int .i64 k ∧ Hid (CcR w W 38 2 v (if k = 0 then 0 else if k = 1 then m else m + q) (if k = 0 then [] else if k = 1 then L else L ++ L2))) (fun i _ _ => 2 - (RowKit.intOf i).toNat)
      case atStart => exact ⟨0, by omega, rfl, hS⟩
      case round =>
        clear hS d0 d1 hL' hL2'
        obtain ⟨k, hk, rfl, hS⟩ := hrel
        have e0 := kept1 c0 hS.out.b
        have e1 := kept1 c1 hS.out.b
        have hLw := Lib.hid (hL.out.below hS.out.b)
        have hL2w := Lib.hid (hL2.out.below hS.out.b)
        rcases (by omega : k = 0 ∨ k = 1 ∨ k = 2) with rfl | rfl | rfl
        · simp only [if_true] at hS
          go_wp2_with (first
            | (refine wpList_append_csSg rfl (.tmp 31) (.tmp 32) rfl w.heap.size _ _ [] rfl hS.out.o a m cap L hm.out hu.out rfl hLw.out ha.out ?c1 ?c2 ?_) | fail)
          case c1 => omega
          case c2 => exact hS.out.b.size
          intro v' w2 h1 h2
          have hS2 := Lib.hid (CcR.mk (cs := L) (n := m) (by simpa using h1) (below_grown2 hS.out.b hS.out.o h2))
          clear h1 h2 hS
          go_wp2
          go_roundw
          case rel => exact ⟨1, by omega, by go_num, hS2⟩
          case measure => decide
        · simp only [Nat.one_ne_zero, if_false, if_true] at hS
          go_wp2_with (first
            | (refine wpList_append_csSg rfl (.tmp 31) (.tmp 32) rfl w.heap.size _ _ L rfl hS.out.o b q cap2 L2 hq.out hu2.out rfl hL2w.out hb.out ?c1 ?c2 ?_) | fail)
          case c1 => omega
          case c2 => exact hS.out.b.size
          intro v' w2 h1 h2
          have hS2 := Lib.hid (CcR.mk (cs := L ++ L2) (n := m + q) h1 (below_grown2 hS.out.b hS.out.o h2))
          clear h1 h2 hS
          go_wp2
          go_roundw
          case rel => exact ⟨2, by omega, by go_num, hS2⟩
          case measure => decide
        · have hS3 : CcR w wr _ _ _ (m + q) (L ++ L2) := hS.out
          have h9 := Lib.hid hS3.o
          have hb9 := hS3.b
          clear hS hS3 e0 e1
          go_wp2
          go_ret
          exact ⟨_, rfl, h9, hb9⟩
end Go.Proofs.YtmkjmpkicmadcaaDoor

/- States compared. -/
namespace Go.Proofs.YtmkjmpkicmadcaaDoor
open Go.RowKit
theorem st_held : Tryd.prog.stoodInHeld 80 = false := by kernel_rfl
theorem st_guard : Tryd.prog.eqGuardType Tryd.prog.depth 80 = false := by kernel_rfl
theorem run_eql_st (p p' t t' : Int) (m m' : Bool) (w : World) : (binOp .eql 80 (.agg #[.int .i64 p, .int .i64 t, .bool m]) (.agg #[.int .i64 p', .int .i64 t', .bool m'])).run Tryd.prog w = .ok (.bool (decide (p = p' ∧ t = t' ∧ m = m'))) w := by
  rw [run_eql_struct, run_equalIn_agg _ _ _ _ _ (by simp only [Program.fieldsOf, Tryd.underlying80]) st_held]
  simp only [Program.fieldsOf, Tryd.underlying80]
  by_cases h1 : p = p'
  · by_cases h2 : t = t'
    · by_cases h3 : m = m'
      · simp [Op.eqFields, go_sem, h1, h2, h3]
      · simp [Op.eqFields, go_sem, h1, h2, h3]
    · simp [Op.eqFields, go_sem, h1, h2]
  · simp [Op.eqFields, go_sem, h1]
theorem run_neq_st (p p' t t' : Int) (m m' : Bool) (w : World) : (binOp .neq 80 (.agg #[.int .i64 p, .int .i64 t, .bool m]) (.agg #[.int .i64 p', .int .i64 t', .bool m'])).run Tryd.prog w = .ok (.bool (!(decide (p = p' ∧ t = t' ∧ m = m')))) w := by
  have h := run_eql_st p p' t t' m m' w
  rw [run_eql_struct] at h
  rw [run_neq_struct]
  revert h
  generalize (Op.equalIn 10000 80 (.agg #[.int .i64 p, .int .i64 t, .bool m]) (.agg #[.int .i64 p', .int .i64 t', .bool m'])).run Tryd.prog w = r
  intro h
  cases r with
  | ok b w' =>
    simp [Result.andThen] at h ⊢
    obtain ⟨h1, h2⟩ := h
    subst h1; subst h2
    simp
  | _ => simp [Result.andThen] at h
end Go.Proofs.YtmkjmpkicmadcaaDoor

/- Contracts of package plate: slices.Reverse of numbers, closed. -/
namespace Go.Proofs.YtmkjmpkicmadcaaDoor
open Go.RowKit Go.Sort

theorem reverse_any (base : Nat) (v : Value) (l : List Int) (n : Nat) (hn : l.length = n) (hn2 : n ≤ 100000) (w : World) (ho : w.ownsRow base 3 1 v n (l.map fun z => Value.int .i64 z)) :
    Calls Tryd.prog 78 #[v] w fun e w' => e = .returned (.tuple #[]) ∧ (∃ b c, v = .slice b n c ∧ NsAt w' b l.reverse ∧ (∀ y, b = some y → base ≤ y.block ∧ y.block < w'.heap.size)) ∧ Below base w w' := by
  obtain ⟨hl, h2⟩ := ho
  rcases h2 with ⟨hv, h0⟩ | ⟨g, cap, cur, hv, hb, hg, hle, hcm, hs, ht⟩
  · subst hv
    subst h0
    obtain rfl : l = [] := List.length_eq_zero_iff.1 hn
    refine (Tryd.slices_Reverse_int_empty none 0 w).mono ?_
    rintro e w' ⟨rfl, rfl⟩
    exact ⟨rfl, ⟨none, 0, rfl, fun k hk => by simp at hk, fun y e => by cases e⟩, Below.refl _ _⟩
  · subst hv
    have hc : ∀ j, j < n → w.cell? ⟨g, j, none⟩ = some (.int .i64 (l.toArray[j]!)) ∧ w.frozen? ⟨g, j, none⟩ = false := fun j hj => by
      have e : cur[j]? = some (.int .i64 (l.toArray[j]!)) := by
        have h1 : (List.take (n * 1) cur.toList)[j]? = (l.map fun z => Value.int .i64 z)[j]? := by rw [ht]
        rw [List.getElem?_take_of_lt (by omega), Array.getElem?_toList, List.getElem?_map, List.getElem?_eq_getElem (by omega)] at h1
        rw [h1, getElem!_pos l.toArray j (by simpa using (by omega : j < l.length))]
        simp
      exact ⟨by simp [World.cell?, hg, e], by simp [World.frozen?, hg]⟩
    have hH : Holds (Value.int .i64) w g 0 l.toArray := fun j hj => by
      rw [Nat.zero_add]
      exact hc j (by simpa [hn] using hj)
    have H := Tryd.slices_Reverse_int g 0 cap l w hH (by omega)
    rw [hn] at H
    refine H.mono ?_
    rintro e w' ⟨rfl, k, rfl⟩
    have hgr := grownBy_sortedI (w := w) (g := g) (n := k) (os := #[]) l.reverse.toArray
    rw [grow_empty] at hgr
    have hH2 := holds_putRow (Value.int .i64) (Sort.ahead w k) g 0 l.toArray l.reverse.toArray hH (by simp)
    refine ⟨rfl, ⟨_, cap, rfl, fun j hj => ⟨_, rfl, ?_⟩, fun y e => by obtain rfl := Option.some.inj e; exact ⟨hb, Nat.lt_of_lt_of_le (Array.getElem?_eq_some_iff.1 hg).1 hgr.size⟩⟩, (Below.refl base w).grown hgr (by have := (Array.getElem?_eq_some_iff.1 hg).1; omega) (fun r hr => by obtain rfl := Option.some.inj hr; exact hb)⟩
    have h := (hH2 j (by simpa using hj)).1
    have e1 : (⟨g, 0, none⟩ : Addr).add j = ⟨g, j, none⟩ := by unfold Addr.add; split <;> simp_all
    rw [e1]
    rw [Nat.zero_add] at h
    rw [h, getElem!_pos l.reverse.toArray j (by simpa using hj)]
    simp [List.getD, List.getElem?_eq_getElem hj]

/-- the box of the state that a walk is followed back from -/
theorem st_cells {W : World} {b : Nat} {y : Pl.St} (h : SA W b y) : W.cell? ⟨b, 0, none⟩ = some (.int .i64 y.p) ∧ W.cell? ⟨b, 1, none⟩ = some (.int .i64 (y.t : Int)) ∧ W.cell? ⟨b, 2, none⟩ = some (.bool y.m) ∧ (∀ i, W.frozen? ⟨b, i, none⟩ = false) := by
  have e0 := h.cell (i := 0) (by omega)
  have e1 := h.cell (i := 1) (by omega)
  have e2 := h.cell (i := 2) (by omega)
  simp only [if_true, if_false, Nat.succ_ne_self, Nat.reduceEqDiff] at e0 e1 e2
  exact ⟨e0, e1, e2, fun i => h.frozen i⟩

/-- the world in closed -/
structure CD (w W : World) (x : Addr) (n cap mb tb : Nat) (u : List Int) (v : Value) (z : Pl.St) : Prop where
  c0 : W.cell? ⟨w.heap.size, 0, none⟩ = some (.slice (some x) n cap)
  c1 : W.cell? ⟨w.heap.size, 1, none⟩ = some (.map (some mb))
  o : W.ownsRow (w.heap.size + 2) 3 1 v u.length (u.map fun z => Value.int .i64 z)
  s : SA W tb z
  t : w.heap.size + 2 ≤ tb
  vt : v.ownBlock ≠ some tb
  b : Below w.heap.size w W
def slen : Value → Nat
  | .slice _ n _ => n
  | _ => 0
theorem CD.below {w W W' : World} {x : Addr} {n cap mb tb : Nat} {u : List Int} {v : Value} {z : Pl.St} (h : CD w W x n cap mb tb u v z) (hb : Below W.heap.size W W') : CD w W' x n cap mb tb u v z :=
  ⟨kept1 h.c0 hb, kept1 h.c1 hb, ownBelow h.o hb, h.s.below hb, h.t, h.vt, h.b.trans (hb.mono h.b.size)⟩

set_option maxRecDepth 100000 in
set_option maxHeartbeats 8000000 in
theorem closed_any (x : Addr) (n cap mb kk : Nat) (hn : 0 < n) (f : Pl.St → Option (Pl.St × Int)) (p : Int) (t : Nat) (m : Bool) (R : List (Pl.St × List Int)) (L : List Pl.Wk) (i : Nat) (hF : Hid (Pl.Bf (Pl.adv L) (Pl.stps L.length) (Pl.start p) i R)) (hA : Hid (Pl.AccF R f)) (hK : Hid (∀ e ∈ R, KS e.1)) (hRl : Hid (R.length ≤ 96 ∧ ∀ e ∈ R, e.2.length ≤ 96)) (w0 : List Int) (hw0 : Hid ((⟨p, t, m⟩, w0) ∈ R)) (w : World)
    (hx0 : w.cell? (x.add 0) = some (.int .i64 p)) (hx1 : w.cell? ⟨(x.add 0).block, (x.add 0).off + 1, none⟩ = some (.int .i64 0)) (hx2 : w.cell? ⟨(x.add 0).block, (x.add 0).off + 2, none⟩ = some (.bool false)) (hM : AM w mb kk f) :
    Calls Tryd.prog 62 #[.agg #[.slice (some x) n cap, .map (some mb)], .agg #[.int .i64 (t : Int), .bool m]] w fun e w' => (∃ b c, e = .returned (.slice b w0.length c) ∧ Hid (NsAt w' b w0) ∧ Hid (∀ y, b = some y → w.heap.size ≤ y.block ∧ y.block < w'.heap.size)) ∧ Below w.heap.size w w' := by
  obtain ⟨i0, hi, hz0, hz1, hz2⟩ := info_parts infoI64
  have hxe : x.add 0 = x := by unfold Addr.add; simp
  have HE := fun (W : World) (h : W.cell? x = some (.int .i64 p)) => pEnd_any x n cap mb hn p t m W h
  unfold waV stV at HE
  replace HE := Lib.hid HE
  have HQ := Lib.hid run_neq_st
  go_enter Tryd.func62, Tryd.ntmps62
  go_upto_region 2 with fail
  have c0 : ((w.alloc (Obj.cells #[.slice (some x) n cap, .map (some mb)] 88)).alloc (Obj.cells #[.int .i64 (t : Int), .bool m] 38)).cell? ⟨w.heap.size, 0, none⟩ = some (.slice (some x) n cap) := by simp [go_sem]
  have c1 : ((w.alloc (Obj.cells #[.slice (some x) n cap, .map (some mb)] 88)).alloc (Obj.cells #[.int .i64 (t : Int), .bool m] 38)).cell? ⟨w.heap.size, 1, none⟩ = some (.map (some mb)) := by simp [go_sem]
  have s0 : ((w.alloc (Obj.cells #[.slice (some x) n cap, .map (some mb)] 88)).alloc (Obj.cells #[.int .i64 (t : Int), .bool m] 38)).cell? ⟨w.heap.size + 1, 0, none⟩ = some (.int .i64 (t : Int)) := by simp [go_sem]
  have s1 : ((w.alloc (Obj.cells #[.slice (some x) n cap, .map (some mb)] 88)).alloc (Obj.cells #[.int .i64 (t : Int), .bool m] 38)).cell? ⟨w.heap.size + 1, 1, none⟩ = some (.bool m) := by simp [go_sem]
  have hv : Below w.heap.size w ((w.alloc (Obj.cells #[.slice (some x) n cap, .map (some mb)] 88)).alloc (Obj.cells #[.int .i64 (t : Int), .bool m] 38)) := below_alloc (below_alloc (Below.refl _ _) _) _
  have hz : ((w.alloc (Obj.cells #[.slice (some x) n cap, .map (some mb)] 88)).alloc (Obj.cells #[.int .i64 (t : Int), .bool m] 38)).heap.size = w.heap.size + 2 := by simp
  generalize (w.alloc (Obj.cells #[.slice (some x) n cap, .map (some mb)] 88)).alloc (Obj.cells #[.int .i64 (t : Int), .bool m] 38) = X at *
  have y0 := kept1 hx0 hv
  have y1 := kept1 hx1 hv
  have y2 := kept1 hx2 hv
  have hM1 := hM.below hv
  go_wp2_with fail
  refine (HE.out X (by rw [← hxe]; exact y0)).mono ?_
  rintro e w2 ⟨rfl, hb2⟩
  have hb2' := hv.trans (hb2.mono hv.size)
  have hz2 : w.heap.size + 2 ≤ w2.heap.size := by have := hb2.size; omega
  have hCD : Hid (CD w (w2.alloc (Obj.cells #[.int .i64 p, .int .i64 (t : Int), .bool m] 80)) x n cap mb w2.heap.size [] (.slice none 0 0) ⟨p, t, m⟩) := Lib.hid ⟨cell_alloc (kept1 c0 hb2) _, cell_alloc (kept1 c1 hb2) _, World.ownsRow_nil _ _ _ _, sa_new w2 ⟨p, t, m⟩, hz2, (fun e => by cases e), below_alloc hb2' _⟩
  clear c0 c1 s0 s1 hv hz y0 y1 y2 hM1 hb2 hb2' HE
  go_wp2
  generalize w2.alloc (Obj.cells #[.int .i64 p, .int .i64 (t : Int), .bool m] 80) = X0 at *
  generalize w2.heap.size = tb0 at *
  clear w2
  go_loopw [5, 6] (fun v tp wr => ∃ (z : Pl.St) (u v1 : List Int) (tb : Nat), tp = .pointer (some ⟨tb, 0, none⟩) ∧ Hid ((z, v1) ∈ R) ∧ Hid (w0 = v1 ++ u) ∧ Hid (CD w wr x n cap mb tb u.reverse v z)) (fun v _ _ => 97 - slen v)
  case atStart => exact ⟨⟨p, t, m⟩, [], w0, tb0, rfl, hw0, Lib.hid (by simp), hCD⟩
  case round =>
    clear hCD hz2
    clear X0 tb0
    obtain ⟨⟨zp, zt, zm⟩, u, v1, tb, rfl, hmem, hwu, hC⟩ := hrel
    have hb := hC.out.b
    have y0 := kept1 hx0 hb
    have y1 := kept1 hx1 hb
    have y2 := kept1 hx2 hb
    rw [hxe] at y0 y1 y2
    have hM1 := hM.below hb
    have c0 := hC.out.c0
    have c1 := hC.out.c1
    obtain ⟨z0, z1, z2, zf⟩ := st_cells hC.out.s
    simp only at z0 z1 z2
    obtain ⟨ur, hur⟩ : ∃ ur, u.reverse = ur := ⟨_, rfl⟩
    rw [hur] at hC
    have ho := hC.out.o
    obtain ⟨ul, hul0⟩ : ∃ ul, ur.length = ul := ⟨_, rfl⟩
    rw [hul0] at ho
    obtain ⟨pp, cp, rfl⟩ := ownForm ho
    have hulu : u.length = ul := by rw [← hul0, ← hur, List.length_reverse]
    have hul : u.length ≤ 96 := by
      have h1 := hRl.out.2 _ hw0.out
      have h2 := congrArg List.length hwu.out
      simp only [List.length_append] at h2
      simp only at h1
      omega
    have hn0 : (0 : Int) < (n : Int) := by omega
    have hpf := Pl.par_first hF.out hmem.out
    go_upto_region 3 with fail
    have S0 : wr.drew.cell? ⟨tb, 0, none⟩ = some (.int .i64 zp) ∧ wr.drew.cell? ⟨tb, 1, none⟩ = some (.int .i64 (zt : Int)) ∧ wr.drew.cell? ⟨tb, 2, none⟩ = some (.bool zm) ∧ wr.drew.cell? ⟨w.heap.size, 0, none⟩ = some (.slice (some x) n cap) ∧ wr.drew.cell? x = some (.int .i64 p) ∧ wr.drew.cell? ⟨x.block, x.off + 1, none⟩ = some (.int .i64 0) ∧ wr.drew.cell? ⟨x.block, x.off + 2, none⟩ = some (.bool false) := ⟨z0, z1, z2, c0, y0, y1, y2⟩
    refine region_head_held 5 (fun w' => w'.cell? ⟨tb, 0, none⟩ = some (.int .i64 zp) ∧ w'.cell? ⟨tb, 1, none⟩ = some (.int .i64 (zt : Int)) ∧ w'.cell? ⟨tb, 2, none⟩ = some (.bool zm) ∧ w'.cell? ⟨w.heap.size, 0, none⟩ = some (.slice (some x) n cap) ∧ w'.cell? x = some (.int .i64 p) ∧ w'.cell? ⟨x.block, x.off + 1, none⟩ = some (.int .i64 0) ∧ w'.cell? ⟨x.block, x.off + 2, none⟩ = some (.bool false)) (by kernel_rfl) (by kernel_rfl) S0 (fun hHeld => ?_)
    simp only [List.take_succ_cons, List.take_zero, List.drop_succ_cons, List.drop_zero]
    refine wpAnyH_take (i := 0) (v := ?_) rfl (by kernel_rfl) (by kernel_rfl) (by kernel_rfl) (fun _ _ _ h => h) (Or.inl ⟨by rfl, ?_⟩) (by assumption) ?_
    rotate_left 1
    · (intro w hSw; (try dsimp only at hSw); go_simp; all_goals with_reducible rfl)
    try simp only [Act.put, List.setIfInBounds_toArray, List.set_cons_zero, List.set_cons_succ]
    refine wpAnyH_take (i := 1) (v := ?_) rfl (by kernel_rfl) (by kernel_rfl) (by kernel_rfl) (fun _ _ _ h => h) (Or.inl ⟨by rfl, ?_⟩) (by assumption) ?_
    rotate_left 1
    · (intro w hSw; (try dsimp only at hSw); go_simp; all_goals with_reducible rfl)
    try simp only [Act.put, List.setIfInBounds_toArray, List.set_cons_zero, List.set_cons_succ]
    refine wpAnyH_take (i := 2) (v := ?_) rfl (by kernel_rfl) (by kernel_rfl) (by kernel_rfl) (fun _ _ _ h => h) (Or.inl ⟨by rfl, ?_⟩) (by assumption) ?_
    rotate_left 1
    · (intro w hSw; (try dsimp only at hSw); go_simp; all_goals with_reducible rfl)
    try simp only [Act.put, List.setIfInBounds_toArray, List.set_cons_zero, List.set_cons_succ]
    refine wpAnyH_take (i := 3) (v := ?_) rfl (by kernel_rfl) (by kernel_rfl) (by kernel_rfl) (fun _ _ _ h => h) (Or.inl ⟨by rfl, ?_⟩) (by assumption) ?_
    rotate_left 1
    · (intro w hSw; (try dsimp only at hSw); go_simp; all_goals with_reducible rfl)
    try simp only [Act.put, List.setIfInBounds_toArray, List.set_cons_zero, List.set_cons_succ]
    refine wpAnyH_take (i := 4) (v := ?_) rfl (by kernel_rfl) (by kernel_rfl) (by kernel_rfl) (fun _ _ _ h => h) (Or.inl ⟨by rfl, ?_⟩) (by assumption) ?_
    rotate_left 1
    · (intro w hSw; (try dsimp only at hSw); go_simp; all_goals with_reducible rfl)
    try simp only [Act.put, List.setIfInBounds_toArray, List.set_cons_zero, List.set_cons_succ]
    simp only [List.getElem_toArray, List.getElem_cons_succ, List.getElem_cons_zero, Act.put, List.setIfInBounds_toArray, List.set_cons_zero, List.set_cons_succ]
    refine wpAnyH_done (by kernel_rfl) ?_ _
    show wpList _ _ _ _ _ _
    clear hHeld S0
    have z0' := z0
    have z1' := z1
    have z2' := z2
    change wr.drew.cell? _ = _ at z0'
    change wr.drew.cell? _ = _ at z1'
    change wr.drew.cell? _ = _ at z2'
    have c1' : wr.drew.cell? ⟨w.heap.size, 1, none⟩ = some (.map (some mb)) := c1
    by_cases hv1 : v1 = []
    · have hq : ∀ w, (binOp .neq 80 (.agg #[.int .i64 zp, .int .i64 (zt : Int), .bool zm]) (.agg #[.int .i64 p, .int .i64 0, .bool false])).run Tryd.prog w = .ok (.bool false) w := fun w => by
        have e := hpf.2 hv1
        simp only [Pl.start, Pl.St.mk.injEq] at e
        obtain ⟨rfl, rfl, rfl⟩ := e
        rw [HQ.out]
        simp
      have hwu2 := hwu.out
      rw [hv1, List.nil_append] at hwu2
      subst hwu2
      have hC2 : Hid (CD w wr.drew x n cap mb tb ur (.slice pp ul cp) ⟨zp, zt, zm⟩) := Lib.hid (hC.out.below (Below.refl _ _).drew)
      have hul1 : ul ≤ 100000 := by omega
      replace hulu := Lib.hid hulu
      replace hul0 := Lib.hid hul0
      replace hur := Lib.hid hur
      clear ho hul
      clear hC hpf HQ hb hM1
      have hsz := hC2.out.b.size
      generalize wr.drew = Y at *
      go_wp2_with fail
      refine (reverse_any (w.heap.size + 2) _ ur ul hul0.out hul1 _ (by have h := hC2.out.o; rw [hul0.out] at h; exact h)).mono ?_
      rintro e w3 ⟨rfl, ⟨b, c, heq, hN, hfr⟩, hb3⟩
      simp only [Value.slice.injEq] at heq
      obtain ⟨rfl, _, rfl⟩ := heq
      rw [← hur.out, List.reverse_reverse] at hN
      have hbf := hC2.out.b.trans (hb3.mono (by omega))
      replace hN := Lib.hid hN
      have hfr2 : Hid (∀ y, pp = some y → w.heap.size ≤ y.block ∧ y.block < w3.heap.size) := Lib.hid (fun y e => by have := hfr y e; omega)
      clear hfr
      clear hC2 hb3
      go_wp2
      go_ret
      exact ⟨⟨pp, cp, by rw [hulu.out]; rfl, hN, hfr2⟩, hbf⟩
    · have hnz : ¬ (⟨zp, zt, zm⟩ : Pl.St) = Pl.start p := fun e => hv1 (hpf.1 e)
      have hq : ∀ w, (binOp .neq 80 (.agg #[.int .i64 zp, .int .i64 (zt : Int), .bool zm]) (.agg #[.int .i64 p, .int .i64 0, .bool false])).run Tryd.prog w = .ok (.bool true) w := fun w => by
        rw [HQ.out, decide_eq_false]
        · rfl
        · rintro ⟨rfl, e2, rfl⟩
          exact hnz (by unfold Pl.start; rw [show zt = 0 by omega])
      obtain ⟨v2, k, rfl⟩ : ∃ v2 k, v1 = v2 ++ [k] := ⟨v1.dropLast, v1.getLast hv1, (List.dropLast_concat_getLast hv1).symm⟩
      obtain ⟨⟨q0, q1, q2⟩, hmem2, hfz⟩ := hA.out.2 _ _ _ hmem.out
      have hlook := hM1.drew.look1 (hK.out _ hmem.out)
      rw [hfz] at hlook
      simp only [Option.getD_some, arV, stV] at hlook
      have hul2 : u.length + 1 ≤ 96 := by
        have h1 := hRl.out.2 _ hw0.out
        have h2 := congrArg List.length hwu.out
        simp only [List.length_append, List.length_cons, List.length_nil] at h2
        simp only at h1
        omega
      have hwu2 : Hid (w0 = v2 ++ (k :: u)) := Lib.hid (by rw [hwu.out]; simp)
      have hC2 : Hid (CD w wr.drew x n cap mb tb ur (.slice pp ul cp) ⟨zp, zt, zm⟩) := Lib.hid (hC.out.below (Below.refl _ _).drew)
      have hul1 : ul + 1 ≤ 96 := by omega
      replace hulu := Lib.hid hulu
      replace hul0 := Lib.hid hul0
      replace hur := Lib.hid hur
      clear ho hul hul2
      have hmem3 : Hid ((⟨q0, q1, q2⟩, v2) ∈ R) := Lib.hid hmem2
      clear hC hpf HQ hb hM1 hfz hnz hwu hmem hmem2
      clear z0 z1 z2 c0 c1
      generalize wr.drew = Y at *
      go_upto_region 5 with fail
      have hba := below_alloc (Below.refl Y.heap.size Y) (Obj.cells #[.int .i64 q0, .int .i64 (q1 : Int), .bool q2, .int .i64 k] 113)
      have hC3 := Lib.hid (hC2.out.below hba)
      have a0 : (Y.alloc (Obj.cells #[.int .i64 q0, .int .i64 (q1 : Int), .bool q2, .int .i64 k] 113)).cell? ⟨Y.heap.size, 0, none⟩ = some (.int .i64 q0) := by simp [go_sem]
      have a1 : (Y.alloc (Obj.cells #[.int .i64 q0, .int .i64 (q1 : Int), .bool q2, .int .i64 k] 113)).cell? ⟨Y.heap.size, 1, none⟩ = some (.int .i64 (q1 : Int)) := by simp [go_sem]
      have a2 : (Y.alloc (Obj.cells #[.int .i64 q0, .int .i64 (q1 : Int), .bool q2, .int .i64 k] 113)).cell? ⟨Y.heap.size, 2, none⟩ = some (.bool q2) := by simp [go_sem]
      have a3 : (Y.alloc (Obj.cells #[.int .i64 q0, .int .i64 (q1 : Int), .bool q2, .int .i64 k] 113)).cell? ⟨Y.heap.size, 3, none⟩ = some (.int .i64 k) := by simp [go_sem]
      have hab : ∀ g, (Value.slice pp ul cp).ownBlock = some g → w.heap.size + 2 ≤ g := fun g hg => ownFar hC2.out.o hg
      have haz : ∀ g, (Value.slice pp ul cp).ownBlock = some g → g < Y.heap.size := fun g hg => (hC2.out.o.lt g hg).2
      have hyz := hC2.out.s.lt
      have hyt := hC2.out.t
      clear hC2 hba hlook hq c1' z0' z1' z2'
      generalize Y.alloc (Obj.cells #[.int .i64 q0, .int .i64 (q1 : Int), .bool q2, .int .i64 k] 113) = X1 at *
      generalize Y.heap.size = ab at *
      have o := hC3.out.o
      rw [hul0.out] at o
      have hx1s : w.heap.size + 2 ≤ X1.heap.size := by have := hC3.out.s.lt; omega
      go_wp2_with (first
        | (at_builtin; refine wpList_append_own_at _ rfl (.tmp 21) (.tmp 24) 35 rfl (w.heap.size + 2) 3 i0 (.int .i64 0) 1 8 Tryd.underlying35 hi hz0 hz1 hz2 rfl (by decide) _ _ _ rfl (o.alloc _) ⟨X1.heap.size, 0, none⟩ 1 1 [.int .i64 k] rfl rfl ?c1 ?c2 ?c3 ?c4 ?c5 ?_)
        | fail)
      case c1 =>
        intro j u hj
        match j, hj with
        | 0, hj => simp at hj; subst hj; simp [Addr.add]
      case c2 => intro u hu; simp at hu; subst hu; rfl
      case c3 => unfold maxLen; omega
      case c4 => omega
      case c5 => first | omega | (simp; omega)
      intro v' w4 hown' hgrow hnn hat
      obtain ⟨p9, c9, rfl⟩ := ownForm hown'
      have hbt := butGrown hgrow
      have h3 := hC3.out.s.lt
      have k0 := hbt.kept (cell_alloc a0 _) (fun e => by have := haz _ e; simp only at this; omega)
      have k1 := hbt.kept (cell_alloc a1 _) (fun e => by have := haz _ e; simp only at this; omega)
      have k2 := hbt.kept (cell_alloc a2 _) (fun e => by have := haz _ e; simp only at this; omega)
      have hS4 : SA w4 tb ⟨zp, zt, zm⟩ := hbt.row (hC3.out.s.alloc _) hC3.out.vt
      have d0 := hbt.kept (cell_alloc hC3.out.c0 _) (fun e => by have := hab _ e; simp only at this; omega)
      have d1 := hbt.kept (cell_alloc hC3.out.c1 _) (fun e => by have := hab _ e; simp only at this; omega)
      obtain ⟨z0, z1, z2, zf⟩ := st_cells hS4
      simp only at z0 z1 z2
      have zf0 := zf 0
      have zf1 := zf 1
      have zf2 := zf 2
      have hz4 : X1.heap.size + 1 ≤ w4.heap.size := by have := hbt.size; simp at this; omega
      have hne : ∀ g, (Value.slice p9 (ul + 1) c9).ownBlock = some g → g ≠ tb ∧ g < w4.heap.size := fun g hg => ⟨fun e => by
        rcases hat with hh | hh
        · exact hC3.out.vt (by rw [← hh, hg, e])
        · rw [hh] at hg
          have := Option.some.inj hg
          omega, (hown'.lt g hg).2⟩
      have hbs : But (fun k => k = tb) w4 (((w4.setCell ⟨tb, 0, none⟩ (.int .i64 q0)).setCell ⟨tb, 1, none⟩ (.int .i64 (q1 : Int))).setCell ⟨tb, 2, none⟩ (.bool q2)) := (((But.refl (fun k => k = tb) w4).setCell (p := ⟨tb, 0, none⟩) (.inr rfl) _).setCell (p := ⟨tb, 1, none⟩) (.inr rfl) _).setCell (p := ⟨tb, 2, none⟩) (.inr rfl) _
      have hb4 : Below w.heap.size w w4 := (below_alloc hC3.out.b _).grown hgrow (by have := hC3.out.b.size; simp; omega) (fun g hg => by have := hab g hg; omega)
      have hS5 := hS4.set ⟨q0, q1, q2⟩
      have hS5' : SA (((w4.setCell ⟨tb, 0, none⟩ (.int .i64 q0)).setCell ⟨tb, 1, none⟩ (.int .i64 (q1 : Int))).setCell ⟨tb, 2, none⟩ (.bool q2)) tb ⟨q0, q1, q2⟩ := hS5
      obtain ⟨y0', y1', y2', _⟩ := st_cells hS5'
      simp only at y0' y1' y2'
      have hCn : Hid (CD w ((((w4.setCell ⟨tb, 0, none⟩ (.int .i64 q0)).setCell ⟨tb, 1, none⟩ (.int .i64 (q1 : Int))).setCell ⟨tb, 2, none⟩ (.bool q2)).alloc (Obj.cells #[.int .i64 q0, .int .i64 (q1 : Int), .bool q2] 80)) x n cap mb (((w4.setCell ⟨tb, 0, none⟩ (.int .i64 q0)).setCell ⟨tb, 1, none⟩ (.int .i64 (q1 : Int))).setCell ⟨tb, 2, none⟩ (.bool q2)).heap.size (k :: u).reverse (.slice p9 (ul + 1) c9) ⟨q0, q1, q2⟩) := Lib.hid (by
        have hl9 : (k :: u).reverse = ur ++ [k] := by rw [List.reverse_cons, hur.out]
        have hzs : (((w4.setCell ⟨tb, 0, none⟩ (.int .i64 q0)).setCell ⟨tb, 1, none⟩ (.int .i64 (q1 : Int))).setCell ⟨tb, 2, none⟩ (.bool q2)).heap.size = w4.heap.size := by simp
        rw [hl9]
        refine ⟨cell_alloc (hbs.kept d0 (fun e => by simp only at e; omega)) _, cell_alloc (hbs.kept d1 (fun e => by simp only at e; omega)) _, ?_, sa_new _ ⟨q0, q1, q2⟩, by rw [hzs]; omega, fun e => by have := (hne _ e).2; rw [hzs] at this; omega, below_alloc (hb4.trans (hbs.below hb4.size (fun k hk e => by omega))) _⟩
        have hh := (ownBut hown' hbs (fun g hg => (hne g hg).1)).alloc (Obj.cells #[.int .i64 q0, .int .i64 (q1 : Int), .bool q2] 80)
        rw [List.length_append, List.map_append, hul0.out]
        exact hh)
      have hzs9 : (((w4.setCell ⟨tb, 0, none⟩ (.int .i64 q0)).setCell ⟨tb, 1, none⟩ (.int .i64 (q1 : Int))).setCell ⟨tb, 2, none⟩ (.bool q2)).heap.size = w4.heap.size := by simp
      rw [hzs9] at hCn
      clear hown' hgrow hnn hat hbt hC3 hS4 hbs hb4 hS5 hS5' hne a0 a1 a2 a3 o zf hzs9
      go_wp2
      go_roundw
      case rel => exact ⟨⟨q0, q1, q2⟩, k :: u, v2, _, rfl, hmem3, hwu2, hCn⟩
      case measure => first | (simp [slen]; done) | (simp [slen]; omega) | omega
end Go.Proofs.YtmkjmpkicmadcaaDoor
