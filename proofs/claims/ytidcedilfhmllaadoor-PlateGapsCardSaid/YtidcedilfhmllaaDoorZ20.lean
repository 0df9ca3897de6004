/- What the claims of layer 3 share, part 20: several texts one behind the other. -/
import Derived.Test.YtidcedilfhmllaaDoorZ18
import Derived.Test.YtidcedilfhmllaaDoorZ19
import Derived.Test.YtidcedilfhmllaaDoorZ12
set_option linter.unusedSimpArgs false
set_option linter.unusedVariables false
/- Contracts of package plate, for a valid shop and plate: Signs, Classes, Freedom, flat, Flat. -/
namespace Pl
theorem sg16_all : sg16 16 = all16 := by decide
theorem sgs_signs {L : List Wk} {p : Int} {f : St → Option (St × Int)} (h : AccF (ways L p) f) : sgs f p 16 = signs L p := by
  unfold sgs signs
  rw [sg16_all]
  congr 1
  funext g
  exact h.1 _
/-- a valid shop, and one of its plates -/
structure VS (s : Nat) (m : Int) (L : List Wk) (p : Int) : Prop where
  s1 : 1 ≤ s
  s6 : s ≤ 6
  m6 : m ≤ 6
  q : L.length ≤ 16
  ok : Ok m L
  p0 : 0 ≤ p
  pm : p < m
  c : cpl s m L p = 0
theorem vs_of {s : Nat} {m : Int} {L : List Wk} {p : Int} (h : cpl s m L p = 0) : VS s m L p := by
  obtain ⟨h1, h2⟩ := cpl_ok h
  obtain ⟨a, b, c, d⟩ := chk_ok h1
  unfold ix at h2
  simp only [Bool.and_eq_true, decide_eq_true_eq] at h2
  exact ⟨by omega, by omega, b.2, c, d, by omega, by omega, h⟩
theorem VS.sg {s : Nat} {m : Int} {L : List Wk} {p : Int} (h : VS s m L p) : ∀ g ∈ signs L p, g.1 < 8 := fun g hg => by
  unfold signs at hg
  exact (mem_all16 (t := g.1) (m := g.2)).1 (List.mem_filter.1 hg).1
theorem signs_len (L : List Wk) (p : Int) : (signs L p).length ≤ 16 := by
  unfold signs
  have := List.length_filter_le (fun g => decide ((⟨p, g.1, g.2⟩ : St) ∈ (ways L p).map Prod.fst)) all16
  have h : all16.length = 16 := by decide
  omega
end Pl
namespace Go.Proofs.YtidcedilfhmllaaDoor
open Go.RowKit

theorem sgCells_len (L : List (Nat × Bool)) : (sgCells L).length = L.length * 2 := by
  induction L with
  | nil => rfl
  | cons l r ih => unfold sgCells at *; rw [List.flatMap_cons, List.length_append, ih]; simp; omega
theorem sgCells_get : ∀ {L : List (Nat × Bool)} {k : Nat}, k < L.length → (sgCells L)[k * 2]? = some (.int .i64 ((L.getD k (0, false)).1 : Int)) ∧ (sgCells L)[k * 2 + 1]? = some (.bool (L.getD k (0, false)).2)
  | [], _, h => absurd h (by simp)
  | l :: r, 0, _ => ⟨rfl, rfl⟩
  | l :: r, k + 1, h => by
    have ih := sgCells_get (L := r) (k := k) (by simpa using h)
    have e : sgCells (l :: r) = .int .i64 (l.1 : Int) :: .bool l.2 :: sgCells r := rfl
    have e0 : (k + 1) * 2 = k * 2 + 1 + 1 := by omega
    rw [e, e0]
    simp only [List.getElem?_cons_succ]
    exact ⟨ih.1, ih.2⟩
theorem sgs_of_owns {w : World} {B : Nat} {v : Value} {G : List (Nat × Bool)} {n : Nat} (hn : G.length = n) (h : w.ownsRow B 70 2 v n (sgCells G)) : ∃ a cap, v = .slice a n cap ∧ SgsAt w a G := by
  obtain ⟨_, h2⟩ := h
  rcases h2 with ⟨hv, h0⟩ | ⟨g, cap, cur, hv, hb, hg, hle, hcm, hs, ht⟩
  · exact ⟨none, 0, by rw [hv, h0], fun k hk => by omega⟩
  · refine ⟨_, cap, hv, fun k hk => ⟨_, rfl, ?_⟩⟩
    have hc : ∀ j u, (sgCells G)[j]? = some u → w.cell? ⟨g, j, none⟩ = some u := by
      intro j u hu
      have hj : j < n * 2 := by rw [← hn, ← sgCells_len]; exact (List.getElem?_eq_some_iff.1 hu).1
      rw [← ht, List.getElem?_take_of_lt hj, Array.getElem?_toList] at hu
      simp [World.cell?, hg, hu]
    obtain ⟨g1, g2⟩ := sgCells_get hk
    have e : (⟨g, 0, none⟩ : Addr).add (k * 2) = ⟨g, k * 2, none⟩ := by unfold Addr.add; split <;> simp_all
    rw [e]
    exact ⟨hc _ _ g1, hc _ _ g2⟩

/-- a list of signs of one's own -/
structure SgO (X W : World) (v : Value) (G : List (Nat × Bool)) : Prop where
  o : W.ownsRow X.heap.size 70 2 v G.length (sgCells G)
  b : Below X.heap.size X W
theorem SgO.at {X W : World} {v : Value} {G : List (Nat × Bool)} (h : SgO X W v G) : ∃ a c, v = .slice a G.length c ∧ SgsAt W a G := sgs_of_owns rfl h.o

/-- signs, behind walksFrom -/
theorem signs_after {s : Nat} {m : Int} {L : List Pl.Wk} {p : Int} (hV : Pl.VS s m L p) {w1 : World} {a : Option Addr} {n cap mb : Nat} {f : Pl.St → Option (Pl.St × Int)} (hn : n = (Pl.ways L p).length) (hS : StsAt w1 a ((Pl.ways L p).map Prod.fst)) (hM : ∃ k, AM w1 mb k f) (hA : Pl.AccF (Pl.ways L p) f) (W : World) (hb : Below w1.heap.size w1 W) :
    Calls Tryd.prog 51 #[.agg #[.slice a n cap, .map (some mb)]] W fun e W' => ∃ v, e = .returned v ∧ Hid (SgO W W' v (Pl.signs L p)) := by
  have h0 := (Pl.ways_ok hV.m6 hV.ok ⟨hV.p0, hV.pm⟩).hd
  have hl := (List.getElem?_eq_some_iff.1 h0).1
  obtain ⟨x, rfl, hx, _⟩ := hS 0 (Pl.start p) (by rw [List.getElem?_map, h0]; rfl)
  have hxe : x.add (0 * 3) = x := by unfold Addr.add; simp
  rw [hxe] at hx
  obtain ⟨k, hM⟩ := hM
  refine (pSignsW_any x n cap mb k (by omega) f p ⟨hV.p0, by have := hV.pm; have := hV.m6; omega⟩ W (kept1 hx hb) (hM.below hb)).mono ?_
  rintro e W' ⟨v, rfl, ho, hb2⟩
  rw [Pl.sgs_signs hA] at ho
  exact ⟨v, rfl, Lib.hid ⟨ho.out, hb2⟩⟩

theorem cp_ok {s : Nat} {m : Int} {L : List Pl.Wk} {p : Int} (hV : Pl.VS s m L p) {a : Option Addr} {q cap : Nat} (hq : L.length = q) {w : World} (hL : Hid (WksAt w a L)) (W : World) (hb : Below w.heap.size w W) :
    Calls Tryd.prog 48 #[.agg #[.int .i64 (s : Int), .int .i64 m, .slice a q cap], .int .i64 p] W fun e w' => e = .returned (.int .i64 0) ∧ Below W.heap.size W w' := by
  subst hq
  have h := checkPlate_any (s : Int) m a cap L p W (Lib.hid (hL.out.below hb))
  have hc : (if Pl.chk s m L ≠ 0 then Pl.chk s m L else if Pl.ix p m then 0 else 1) = 0 := hV.c
  rw [hc] at h
  exact h
theorem wf_ok {s : Nat} {m : Int} {L : List Pl.Wk} {p : Int} (hV : Pl.VS s m L p) {a : Option Addr} {q cap : Nat} (hq : L.length = q) {w : World} (hL : Hid (WksAt w a L)) (W : World) (hb : Below w.heap.size w W) :
    Calls Tryd.prog 50 #[.agg #[.int .i64 (s : Int), .int .i64 m, .slice a q cap], .int .i64 p] W (WaPost W L p) :=
  walksFrom_any (s : Int) m hV.m6 a q cap L hq (by have := hV.q; omega) (Lib.hid hV.ok) p ⟨hV.p0, hV.pm⟩ W (Lib.hid (hL.out.below hb))

set_option maxRecDepth 100000 in
set_option maxHeartbeats 2000000 in
/-- Signs -/
theorem pSigns_ok (s : Nat) (m : Int) (a : Option Addr) (q cap : Nat) (L : List Pl.Wk) (hq : L.length = q) (p : Int) (hV : Pl.VS s m L p) (w : World) (hL : Hid (WksAt w a L)) :
    Calls Tryd.prog 32 #[.agg #[.int .i64 (s : Int), .int .i64 m, .slice a q cap], .int .i64 p] w fun e w' => ∃ v, e = .returned (.tuple #[v, .int .i64 0]) ∧ Hid (SgO w w' v (Pl.signs L p)) := by
  have HC := Lib.hid (cp_ok hV (cap := cap) hq hL)
  have HW := Lib.hid (wf_ok hV (cap := cap) hq hL)
  go_enter Tryd.func32, Tryd.ntmps32
  go_wp2_with fail
  refine (HC.out _ (by repeat (first | with_reducible exact Below.refl _ _ | with_reducible assumption | refine below_drewN ?_ _ | refine Below.drew ?_ | refine Below.alloc ?_ (by first | (simp; done) | (simp; omega) | omega) _ | refine Below.setCell ?_ (by first | (simp; done) | (simp; omega) | omega) _ | refine Below.trans ?_ (Below.mono (by assumption) (by first | (simp; done) | (simp; omega) | omega))))).mono ?_
  rintro e w1 ⟨rfl, hb1⟩
  have k0 : w1.cell? ⟨w.heap.size, 0, none⟩ = some (.int .i64 (s : Int)) := kept1 (by simp [go_sem]) hb1
  have k1 : w1.cell? ⟨w.heap.size, 1, none⟩ = some (.int .i64 m) := kept1 (by simp [go_sem]) hb1
  have k2 : w1.cell? ⟨w.heap.size, 2, none⟩ = some (.slice a q cap) := kept1 (by simp [go_sem]) hb1
  have hbw : Below w.heap.size w w1 := (by repeat (first | with_reducible exact Below.refl _ _ | with_reducible assumption | refine below_drewN ?_ _ | refine Below.drew ?_ | refine Below.alloc ?_ (by first | (simp; done) | (simp; omega) | omega) _ | refine Below.setCell ?_ (by first | (simp; done) | (simp; omega) | omega) _ | refine Below.trans ?_ (Below.mono (by assumption) (by first | (simp; done) | (simp; omega) | omega))))
  clear hb1 HC
  go_wp2_with fail
  refine (HW.out _ hbw).mono ?_
  rintro e w2 ⟨a1, n1, c1, mb, f, rfl, hn1, hS, hM, hA, hb2⟩
  have HS2 := Lib.hid (signs_after hV hn1 hS.out hM.out hA.out (cap := c1) w2 (Below.refl _ _))
  have hbw2 := hbw.trans (hb2.mono hbw.size)
  clear hn1 hS hM hA hb2 HW hbw
  go_wp2_with fail
  refine HS2.out.mono ?_
  rintro e w3 ⟨v, rfl, hO⟩
  have hf : Hid (SgO w w3 v (Pl.signs L p)) := Lib.hid ⟨ownBase hO.out.o hbw2.size, hbw2.trans (hO.out.b.mono hbw2.size)⟩
  clear hO HS2
  go_wp2
  go_ret2
  exact ⟨v, rfl, hf⟩

set_option maxRecDepth 100000 in
set_option maxHeartbeats 4000000 in
/-- flat -/
theorem flat_ok (s : Nat) (m : Int) (a : Option Addr) (q cap : Nat) (L : List Pl.Wk) (hq : L.length = q) (p : Int) (hV : Pl.VS s m L p) (w : World) (hL : Hid (WksAt w a L)) :
    Calls Tryd.prog 53 #[.agg #[.int .i64 (s : Int), .int .i64 m, .slice a q cap], .int .i64 p] w fun e w' => e = .returned (.bool (Pl.frd s (Pl.signs L p) == 0)) ∧ Below w.heap.size w w' := by
  have HW := Lib.hid (wf_ok hV (cap := cap) hq hL)
  have hsl := Pl.signs_len L p
  have HF := Lib.hid (fun (W : World) (a3 : Option Addr) (c3 : Nat) (hG : Hid (SgsAt W a3 (Pl.signs L p))) => freedom_any s hV.s1 hV.s6 a3 (Pl.signs L p).length c3 (Pl.signs L p) (Lib.hid rfl) (by omega) (Lib.hid hV.sg) W hG)
  go_enter Tryd.func53, Tryd.ntmps53
  go_upto_region 1 with fail
  have k0 : (w.alloc (Obj.cells #[.int .i64 (s : Int), .int .i64 m, .slice a q cap] 34)).cell? ⟨w.heap.size, 0, none⟩ = some (.int .i64 (s : Int)) := by simp [go_sem]
  have k1 : (w.alloc (Obj.cells #[.int .i64 (s : Int), .int .i64 m, .slice a q cap] 34)).cell? ⟨w.heap.size, 1, none⟩ = some (.int .i64 m) := by simp [go_sem]
  have k2 : (w.alloc (Obj.cells #[.int .i64 (s : Int), .int .i64 m, .slice a q cap] 34)).cell? ⟨w.heap.size, 2, none⟩ = some (.slice a q cap) := by simp [go_sem]
  have hbX : Below w.heap.size w (w.alloc (Obj.cells #[.int .i64 (s : Int), .int .i64 m, .slice a q cap] 34)) := below_alloc (Below.refl _ _) _
  generalize w.alloc (Obj.cells #[.int .i64 (s : Int), .int .i64 m, .slice a q cap] 34) = X at *

  have S0 : X.drew.cell? ⟨w.heap.size, 0, none⟩ = some (.int .i64 (s : Int)) ∧ X.drew.cell? ⟨w.heap.size, 1, none⟩ = some (.int .i64 m) ∧ X.drew.cell? ⟨w.heap.size, 2, none⟩ = some (.slice a q cap) := ⟨k0, k1, k2⟩
  refine region_head_held 6 (fun w' => w'.cell? ⟨w.heap.size, 0, none⟩ = some (.int .i64 (s : Int)) ∧ w'.cell? ⟨w.heap.size, 1, none⟩ = some (.int .i64 m) ∧ w'.cell? ⟨w.heap.size, 2, none⟩ = some (.slice a q cap)) (by kernel_rfl) (by kernel_rfl) S0 (fun hHeld => ?_)
  simp only [List.take_succ_cons, List.take_zero, List.drop_succ_cons, List.drop_zero]
  refine wpAnyH_take (i := 0) (v := ?_) rfl (by kernel_rfl) (by kernel_rfl) (by kernel_rfl) (fun _ _ _ h => h) (Or.inl ⟨by rfl, ?_⟩) (by assumption) ?_
  rotate_left 1
  · (intro w hSw; (try dsimp only at hSw); go_simp; all_goals with_reducible rfl)
  try simp only [Act.put, List.setIfInBounds_toArray, List.set_cons_zero, List.set_cons_succ]
  refine wpAnyH_take (i := 1) (v := ?_) rfl (by kernel_rfl) (by kernel_rfl) (by kernel_rfl) (fun _ _ _ h => h) (Or.inl ⟨by rfl, ?_⟩) (by assumption) ?_
  rotate_left 1
  · (intro w hSw; (try dsimp only at hSw); go_simp; all_goals with_reducible rfl)
  try simp only [Act.put, List.setIfInBounds_toArray, List.set_cons_zero, List.set_cons_succ]
  refine wpAnyH_take (i := 2) (v := ?_) rfl (by kernel_rfl) (by kernel_rfl) (by kernel_rfl) (fun _ _ _ h => h) (Or.inl ⟨by rfl, ?_⟩) (by assumption) ?_
  rotate_left 1
  · (intro w hSw; (try dsimp only at hSw); go_simp; all_goals with_reducible rfl)
  try simp only [Act.put, List.setIfInBounds_toArray, List.set_cons_zero, List.set_cons_succ]
  refine wpAnyH_take (i := 3) (v := ?_) rfl (by kernel_rfl) (by kernel_rfl) (by kernel_rfl) (fun _ _ _ h => h) (Or.inl ⟨by rfl, ?_⟩) (by assumption) ?_
  rotate_left 1
  · (intro w hSw; (try dsimp only at hSw); go_simp; all_goals with_reducible rfl)
  try simp only [Act.put, List.setIfInBounds_toArray, List.set_cons_zero, List.set_cons_succ]
  simp only [List.getElem_toArray, List.getElem_cons_succ, List.getElem_cons_zero, Act.put, List.setIfInBounds_toArray, List.set_cons_zero, List.set_cons_succ]
  have HWd := Lib.hid (HW.out X.drew hbX.drew)
  refine wpAnyH_ready (rs := [4]) (by kernel_rfl) (by simp) ?_
  refine AllReadyH.cons rfl (fun K hK => ?_) ?_
  rotate_left 1
  · exact AllReadyH.nil
  go_simp
  with_reducible refine (HWd.out).mono ?_
  rintro e w2 ⟨a1, n1, c1, mb, f, he, hn1, hS, hM, hA, hb2⟩
  subst he
  have S2 : w2.cell? ⟨w.heap.size, 0, none⟩ = some (.int .i64 (s : Int)) ∧ w2.cell? ⟨w.heap.size, 1, none⟩ = some (.int .i64 m) ∧ w2.cell? ⟨w.heap.size, 2, none⟩ = some (.slice a q cap) := ⟨kept1 hHeld.1 hb2, kept1 hHeld.2.1 hb2, kept1 hHeld.2.2 hb2⟩
  refine hK.out _ _ S2 (fun hHeld2 => ?_)
  clear hK K
  try simp only [List.getElem_toArray, List.getElem_cons_succ, List.getElem_cons_zero, Act.put, List.setIfInBounds_toArray, List.set_cons_zero, List.set_cons_succ]
  have HS2 := Lib.hid (signs_after hV hn1 hS.out hM.out hA.out (cap := c1) w2 (Below.refl _ _))
  have hbw2 : Below w.heap.size w w2 := Below.trans hbX.drew (hb2.mono (Below.size hbX.drew))
  clear hn1 hS hM hA hb2 HW HWd
  refine wpAnyH_ready (rs := [5]) (by kernel_rfl) (by simp) ?_
  refine AllReadyH.cons rfl (fun K hK => ?_) ?_
  rotate_left 1
  · exact AllReadyH.nil
  go_simp
  with_reducible refine (HS2.out).mono ?_
  rintro e w3 ⟨v, he, hO⟩
  subst he
  have S3 : w3.cell? ⟨w.heap.size, 0, none⟩ = some (.int .i64 (s : Int)) ∧ w3.cell? ⟨w.heap.size, 1, none⟩ = some (.int .i64 m) ∧ w3.cell? ⟨w.heap.size, 2, none⟩ = some (.slice a q cap) := ⟨kept1 S2.1 hO.out.b, kept1 S2.2.1 hO.out.b, kept1 S2.2.2 hO.out.b⟩
  refine hK.out _ _ S3 (fun hHeld3 => ?_)
  clear hK K HS2
  try simp only [List.getElem_toArray, List.getElem_cons_succ, List.getElem_cons_zero, Act.put, List.setIfInBounds_toArray, List.set_cons_zero, List.set_cons_succ]
  obtain ⟨a3, c3, rfl, hG⟩ := hO.out.at
  have hbw3 : Below w.heap.size w w3 := hbw2.trans (hO.out.b.mono hbw2.size)
  replace hG := Lib.hid hG
  clear hO hHeld hHeld2 hbw2
  refine wpAnyH_done (by kernel_rfl) ?_ _
  show wpList _ _ _ _ _ _
  go_wp2_with fail
  refine (HF.out w3 a3 c3 hG).mono ?_
  rintro e w4 ⟨rfl, hb4⟩
  have hbf := hbw3.trans (hb4.mono hbw3.size)
  go_wp2
  go_ret
  exact ⟨rfl, hbf⟩
end Go.Proofs.YtidcedilfhmllaaDoor

/- Contracts of package plate, for a valid shop and plate: Freedom, Flat, Classes. -/
namespace Go.Proofs.YtidcedilfhmllaaDoor
open Go.RowKit

set_option maxRecDepth 100000 in
set_option maxHeartbeats 4000000 in
theorem pFlat_ok (s : Nat) (m : Int) (a : Option Addr) (q cap : Nat) (L : List Pl.Wk) (hq : L.length = q) (p : Int) (hV : Pl.VS s m L p) (w : World) (hL : Hid (WksAt w a L)) :
    Calls Tryd.prog 18 #[.agg #[.int .i64 (s : Int), .int .i64 m, .slice a q cap], .int .i64 p] w fun e w' => e = .returned (.tuple #[.bool (Pl.frd s (Pl.signs L p) == 0), .int .i64 0]) ∧ Below w.heap.size w w' := by
  have HC := Lib.hid (cp_ok hV (cap := cap) hq hL)
  have HF := Lib.hid (fun (W : World) (hb : Below w.heap.size w W) => flat_ok s m a q cap L hq p hV W (Lib.hid (hL.out.below hb)))
  go_enter Tryd.func18, Tryd.ntmps18
  go_wp2_with fail
  refine (HC.out _ (by repeat (first | with_reducible exact Below.refl _ _ | with_reducible assumption | refine below_drewN ?_ _ | refine Below.drew ?_ | refine Below.alloc ?_ (by first | (simp; done) | (simp; omega) | omega) _ | refine Below.setCell ?_ (by first | (simp; done) | (simp; omega) | omega) _ | refine Below.trans ?_ (Below.mono (by assumption) (by first | (simp; done) | (simp; omega) | omega))))).mono ?_
  rintro e w1 ⟨rfl, hb1⟩
  have k0 : w1.cell? ⟨w.heap.size, 0, none⟩ = some (.int .i64 (s : Int)) := kept1 (by simp [go_sem]) hb1
  have k1 : w1.cell? ⟨w.heap.size, 1, none⟩ = some (.int .i64 m) := kept1 (by simp [go_sem]) hb1
  have k2 : w1.cell? ⟨w.heap.size, 2, none⟩ = some (.slice a q cap) := kept1 (by simp [go_sem]) hb1
  have hbw : Below w.heap.size w w1 := (by repeat (first | with_reducible exact Below.refl _ _ | with_reducible assumption | refine below_drewN ?_ _ | refine Below.drew ?_ | refine Below.alloc ?_ (by first | (simp; done) | (simp; omega) | omega) _ | refine Below.setCell ?_ (by first | (simp; done) | (simp; omega) | omega) _ | refine Below.trans ?_ (Below.mono (by assumption) (by first | (simp; done) | (simp; omega) | omega))))
  clear hb1 HC
  go_wp2_with fail
  refine (HF.out _ hbw).mono ?_
  rintro e w2 ⟨rfl, hb2⟩
  have hbf := hbw.trans (hb2.mono hbw.size)
  go_wp2
  go_ret2
  exact ⟨rfl, hbf⟩

set_option maxRecDepth 100000 in
set_option maxHeartbeats 4000000 in
theorem pFreedom_ok (s : Nat) (m : Int) (a : Option Addr) (q cap : Nat) (L : List Pl.Wk) (hq : L.length = q) (p : Int) (hV : Pl.VS s m L p) (w : World) (hL : Hid (WksAt w a L)) :
    Calls Tryd.prog 17 #[.agg #[.int .i64 (s : Int), .int .i64 m, .slice a q cap], .int .i64 p] w fun e w' => e = .returned (.tuple #[.int .i64 (Pl.frd s (Pl.signs L p)), .int .i64 0]) ∧ Below w.heap.size w w' := by
  have HC := Lib.hid (cp_ok hV (cap := cap) hq hL)
  have HW := Lib.hid (wf_ok hV (cap := cap) hq hL)
  have hsl := Pl.signs_len L p
  have HF := Lib.hid (fun (W : World) (a3 : Option Addr) (c3 : Nat) (hG : Hid (SgsAt W a3 (Pl.signs L p))) => freedom_any s hV.s1 hV.s6 a3 (Pl.signs L p).length c3 (Pl.signs L p) (Lib.hid rfl) (by omega) (Lib.hid hV.sg) W hG)
  go_enter Tryd.func17, Tryd.ntmps17
  go_wp2_with fail
  refine (HC.out _ (by repeat (first | with_reducible exact Below.refl _ _ | with_reducible assumption | refine below_drewN ?_ _ | refine Below.drew ?_ | refine Below.alloc ?_ (by first | (simp; done) | (simp; omega) | omega) _ | refine Below.setCell ?_ (by first | (simp; done) | (simp; omega) | omega) _ | refine Below.trans ?_ (Below.mono (by assumption) (by first | (simp; done) | (simp; omega) | omega))))).mono ?_
  rintro e w1 ⟨rfl, hb1⟩
  have k0 : w1.cell? ⟨w.heap.size, 0, none⟩ = some (.int .i64 (s : Int)) := kept1 (by simp [go_sem]) hb1
  have k1 : w1.cell? ⟨w.heap.size, 1, none⟩ = some (.int .i64 m) := kept1 (by simp [go_sem]) hb1
  have k2 : w1.cell? ⟨w.heap.size, 2, none⟩ = some (.slice a q cap) := kept1 (by simp [go_sem]) hb1
  have hbw : Below w.heap.size w w1 := (by repeat (first | with_reducible exact Below.refl _ _ | with_reducible assumption | refine below_drewN ?_ _ | refine Below.drew ?_ | refine Below.alloc ?_ (by first | (simp; done) | (simp; omega) | omega) _ | refine Below.setCell ?_ (by first | (simp; done) | (simp; omega) | omega) _ | refine Below.trans ?_ (Below.mono (by assumption) (by first | (simp; done) | (simp; omega) | omega))))
  clear hb1 HC
  go_upto_region 4 with fail
  have S0 : w1.drew.cell? ⟨w.heap.size, 0, none⟩ = some (.int .i64 (s : Int)) ∧ w1.drew.cell? ⟨w.heap.size, 1, none⟩ = some (.int .i64 m) ∧ w1.drew.cell? ⟨w.heap.size, 2, none⟩ = some (.slice a q cap) := ⟨k0, k1, k2⟩
  refine region_head_held 8 (fun w' => w'.cell? ⟨w.heap.size, 0, none⟩ = some (.int .i64 (s : Int)) ∧ w'.cell? ⟨w.heap.size, 1, none⟩ = some (.int .i64 m) ∧ w'.cell? ⟨w.heap.size, 2, none⟩ = some (.slice a q cap)) (by kernel_rfl) (by kernel_rfl) S0 (fun hHeld => ?_)
  simp only [List.take_succ_cons, List.take_zero, List.drop_succ_cons, List.drop_zero]
  refine wpAnyH_take (i := 0) (v := ?_) rfl (by kernel_rfl) (by kernel_rfl) (by kernel_rfl) (fun _ _ _ h => h) (Or.inl ⟨by rfl, ?_⟩) (by assumption) ?_
  rotate_left 1
  · (intro w hSw; (try dsimp only at hSw); go_simp; all_goals with_reducible rfl)
  try simp only [Act.put, List.setIfInBounds_toArray, List.set_cons_zero, List.set_cons_succ]
  refine wpAnyH_take (i := 1) (v := ?_) rfl (by kernel_rfl) (by kernel_rfl) (by kernel_rfl) (fun _ _ _ h => h) (Or.inl ⟨by rfl, ?_⟩) (by assumption) ?_
  rotate_left 1
  · (intro w hSw; (try dsimp only at hSw); go_simp; all_goals with_reducible rfl)
  try simp only [Act.put, List.setIfInBounds_toArray, List.set_cons_zero, List.set_cons_succ]
  refine wpAnyH_take (i := 2) (v := ?_) rfl (by kernel_rfl) (by kernel_rfl) (by kernel_rfl) (fun _ _ _ h => h) (Or.inl ⟨by rfl, ?_⟩) (by assumption) ?_
  rotate_left 1
  · (intro w hSw; (try dsimp only at hSw); go_simp; all_goals with_reducible rfl)
  try simp only [Act.put, List.setIfInBounds_toArray, List.set_cons_zero, List.set_cons_succ]
  refine wpAnyH_take (i := 3) (v := ?_) rfl (by kernel_rfl) (by kernel_rfl) (by kernel_rfl) (fun _ _ _ h => h) (Or.inl ⟨by rfl, ?_⟩) (by assumption) ?_
  rotate_left 1
  · (intro w hSw; (try dsimp only at hSw); go_simp; all_goals with_reducible rfl)
  try simp only [Act.put, List.setIfInBounds_toArray, List.set_cons_zero, List.set_cons_succ]
  simp only [List.getElem_toArray, List.getElem_cons_succ, List.getElem_cons_zero, Act.put, List.setIfInBounds_toArray, List.set_cons_zero, List.set_cons_succ]
  have HWd := Lib.hid (HW.out w1.drew hbw.drew)
  refine wpAnyH_ready (rs := [4]) (by kernel_rfl) (by simp) ?_
  refine AllReadyH.cons rfl (fun K hK => ?_) ?_
  rotate_left 1
  · exact AllReadyH.nil
  go_simp
  with_reducible refine (HWd.out).mono ?_
  rintro e w2 ⟨a1, n1, c1, mb, f, he, hn1, hS, hM, hA, hb2⟩
  subst he
  have S2 : w2.cell? ⟨w.heap.size, 0, none⟩ = some (.int .i64 (s : Int)) ∧ w2.cell? ⟨w.heap.size, 1, none⟩ = some (.int .i64 m) ∧ w2.cell? ⟨w.heap.size, 2, none⟩ = some (.slice a q cap) := ⟨kept1 hHeld.1 hb2, kept1 hHeld.2.1 hb2, kept1 hHeld.2.2 hb2⟩
  refine hK.out _ _ S2 (fun hHeld2 => ?_)
  clear hK K
  try simp only [List.getElem_toArray, List.getElem_cons_succ, List.getElem_cons_zero, Act.put, List.setIfInBounds_toArray, List.set_cons_zero, List.set_cons_succ]
  have HS2 := Lib.hid (signs_after hV hn1 hS.out hM.out hA.out (cap := c1) w2 (Below.refl _ _))
  have hbw2 : Below w.heap.size w w2 := Below.trans hbw.drew (hb2.mono (Below.size hbw.drew))
  clear hn1 hS hM hA hb2 HW HWd
  refine wpAnyH_ready (rs := [5]) (by kernel_rfl) (by simp) ?_
  refine AllReadyH.cons rfl (fun K hK => ?_) ?_
  rotate_left 1
  · exact AllReadyH.nil
  go_simp
  with_reducible refine (HS2.out).mono ?_
  rintro e w3 ⟨v, he, hO⟩
  subst he
  have S3 : w3.cell? ⟨w.heap.size, 0, none⟩ = some (.int .i64 (s : Int)) ∧ w3.cell? ⟨w.heap.size, 1, none⟩ = some (.int .i64 m) ∧ w3.cell? ⟨w.heap.size, 2, none⟩ = some (.slice a q cap) := ⟨kept1 S2.1 hO.out.b, kept1 S2.2.1 hO.out.b, kept1 S2.2.2 hO.out.b⟩
  refine hK.out _ _ S3 (fun hHeld3 => ?_)
  clear hK K HS2
  try simp only [List.getElem_toArray, List.getElem_cons_succ, List.getElem_cons_zero, Act.put, List.setIfInBounds_toArray, List.set_cons_zero, List.set_cons_succ]
  obtain ⟨a3, c3, rfl, hG⟩ := hO.out.at
  have hbw3 : Below w.heap.size w w3 := hbw2.trans (hO.out.b.mono hbw2.size)
  replace hG := Lib.hid hG
  clear hO hHeld hHeld2 hbw2
  refine wpAnyH_ready (rs := [6]) (by kernel_rfl) (by simp) ?_
  refine AllReadyH.cons rfl (fun K hK => ?_) ?_
  rotate_left 1
  · exact AllReadyH.nil
  go_simp
  with_reducible refine (HF.out w3 a3 c3 hG).mono ?_
  rintro e w4 ⟨he, hb4⟩
  subst he
  have S4 : w4.cell? ⟨w.heap.size, 0, none⟩ = some (.int .i64 (s : Int)) ∧ w4.cell? ⟨w.heap.size, 1, none⟩ = some (.int .i64 m) ∧ w4.cell? ⟨w.heap.size, 2, none⟩ = some (.slice a q cap) := ⟨kept1 S3.1 hb4, kept1 S3.2.1 hb4, kept1 S3.2.2 hb4⟩
  refine hK.out _ _ S4 (fun hHeld4 => ?_)
  clear hK K HF
  try simp only [List.getElem_toArray, List.getElem_cons_succ, List.getElem_cons_zero, Act.put, List.setIfInBounds_toArray, List.set_cons_zero, List.set_cons_succ]
  refine wpAnyH_take (i := 7) (v := ?_) rfl (by kernel_rfl) (by kernel_rfl) (by kernel_rfl) (fun _ _ _ h => h) (Or.inl ⟨by rfl, ?_⟩) (by assumption) ?_
  rotate_left 1
  · (intro w hSw; (try dsimp only at hSw); go_simp; all_goals with_reducible rfl)
  try simp only [Act.put, List.setIfInBounds_toArray, List.set_cons_zero, List.set_cons_succ]
  simp only [List.getElem_toArray, List.getElem_cons_succ, List.getElem_cons_zero, Act.put, List.setIfInBounds_toArray, List.set_cons_zero, List.set_cons_succ]
  refine wpAnyH_done (by kernel_rfl) ?_ _
  show wpList _ _ _ _ _ _
  have hbf := hbw3.trans (hb4.mono hbw3.size)
  clear S0 S2 S3 S4 hHeld3 hHeld4
  go_wp2
  go_ret2
  exact ⟨rfl, hbf⟩

set_option maxRecDepth 100000 in
set_option maxHeartbeats 4000000 in
theorem pClasses_ok (s : Nat) (m : Int) (a : Option Addr) (q cap : Nat) (L : List Pl.Wk) (hq : L.length = q) (p : Int) (hV : Pl.VS s m L p) (w : World) (hL : Hid (WksAt w a L)) :
    Calls Tryd.prog 16 #[.agg #[.int .i64 (s : Int), .int .i64 m, .slice a q cap], .int .i64 p] w fun e w' => ∃ lb wb cl cw, e = .returned (.tuple #[.slice (some ⟨lb, 0, none⟩) (s * s) cl, .slice (some ⟨wb, 0, none⟩) (s * s) cw, .int .i64 0]) ∧ Hid (RowF w' lb (s * s) fun k => (Pl.lsF (Pl.clsL s (Pl.signs L p)).1 k : Int)) ∧ Hid (RowF w' wb (s * s) (Pl.wsF (Pl.clsL s (Pl.signs L p)).2)) ∧ Below w.heap.size w w' := by
  have HC := Lib.hid (cp_ok hV (cap := cap) hq hL)
  have HW := Lib.hid (wf_ok hV (cap := cap) hq hL)
  have hsl := Pl.signs_len L p
  have HF := Lib.hid (fun (W : World) (a3 : Option Addr) (c3 : Nat) (hG : Hid (SgsAt W a3 (Pl.signs L p))) => classes_any s hV.s1 hV.s6 a3 (Pl.signs L p).length c3 (Pl.signs L p) (Lib.hid rfl) (by omega) (Lib.hid hV.sg) W hG)
  obtain ⟨N, hN⟩ : ∃ N, s * s = N := ⟨_, rfl⟩
  rw [hN] at HF
  rw [hN]
  clear hN
  go_enter Tryd.func16, Tryd.ntmps16
  go_wp2_with fail
  refine (HC.out _ (by repeat (first | with_reducible exact Below.refl _ _ | with_reducible assumption | refine below_drewN ?_ _ | refine Below.drew ?_ | refine Below.alloc ?_ (by first | (simp; done) | (simp; omega) | omega) _ | refine Below.setCell ?_ (by first | (simp; done) | (simp; omega) | omega) _ | refine Below.trans ?_ (Below.mono (by assumption) (by first | (simp; done) | (simp; omega) | omega))))).mono ?_
  rintro e w1 ⟨rfl, hb1⟩
  have k0 : w1.cell? ⟨w.heap.size, 0, none⟩ = some (.int .i64 (s : Int)) := kept1 (by simp [go_sem]) hb1
  have k1 : w1.cell? ⟨w.heap.size, 1, none⟩ = some (.int .i64 m) := kept1 (by simp [go_sem]) hb1
  have k2 : w1.cell? ⟨w.heap.size, 2, none⟩ = some (.slice a q cap) := kept1 (by simp [go_sem]) hb1
  have hbw : Below w.heap.size w w1 := (by repeat (first | with_reducible exact Below.refl _ _ | with_reducible assumption | refine below_drewN ?_ _ | refine Below.drew ?_ | refine Below.alloc ?_ (by first | (simp; done) | (simp; omega) | omega) _ | refine Below.setCell ?_ (by first | (simp; done) | (simp; omega) | omega) _ | refine Below.trans ?_ (Below.mono (by assumption) (by first | (simp; done) | (simp; omega) | omega))))
  clear hb1 HC
  go_upto_region 4 with fail
  have S0 : w1.drew.cell? ⟨w.heap.size, 0, none⟩ = some (.int .i64 (s : Int)) ∧ w1.drew.cell? ⟨w.heap.size, 1, none⟩ = some (.int .i64 m) ∧ w1.drew.cell? ⟨w.heap.size, 2, none⟩ = some (.slice a q cap) := ⟨k0, k1, k2⟩
  refine region_head_held 11 (fun w' => w'.cell? ⟨w.heap.size, 0, none⟩ = some (.int .i64 (s : Int)) ∧ w'.cell? ⟨w.heap.size, 1, none⟩ = some (.int .i64 m) ∧ w'.cell? ⟨w.heap.size, 2, none⟩ = some (.slice a q cap)) (by kernel_rfl) (by kernel_rfl) S0 (fun hHeld => ?_)
  simp only [List.take_succ_cons, List.take_zero, List.drop_succ_cons, List.drop_zero]
  refine wpAnyH_take (i := 0) (v := ?_) rfl (by kernel_rfl) (by kernel_rfl) (by kernel_rfl) (fun _ _ _ h => h) (Or.inl ⟨by rfl, ?_⟩) (by assumption) ?_
  rotate_left 1
  · (intro w hSw; (try dsimp only at hSw); go_simp; all_goals with_reducible rfl)
  try simp only [Act.put, List.setIfInBounds_toArray, List.set_cons_zero, List.set_cons_succ]
  refine wpAnyH_take (i := 1) (v := ?_) rfl (by kernel_rfl) (by kernel_rfl) (by kernel_rfl) (fun _ _ _ h => h) (Or.inl ⟨by rfl, ?_⟩) (by assumption) ?_
  rotate_left 1
  · (intro w hSw; (try dsimp only at hSw); go_simp; all_goals with_reducible rfl)
  try simp only [Act.put, List.setIfInBounds_toArray, List.set_cons_zero, List.set_cons_succ]
  refine wpAnyH_take (i := 2) (v := ?_) rfl (by kernel_rfl) (by kernel_rfl) (by kernel_rfl) (fun _ _ _ h => h) (Or.inl ⟨by rfl, ?_⟩) (by assumption) ?_
  rotate_left 1
  · (intro w hSw; (try dsimp only at hSw); go_simp; all_goals with_reducible rfl)
  try simp only [Act.put, List.setIfInBounds_toArray, List.set_cons_zero, List.set_cons_succ]
  refine wpAnyH_take (i := 3) (v := ?_) rfl (by kernel_rfl) (by kernel_rfl) (by kernel_rfl) (fun _ _ _ h => h) (Or.inl ⟨by rfl, ?_⟩) (by assumption) ?_
  rotate_left 1
  · (intro w hSw; (try dsimp only at hSw); go_simp; all_goals with_reducible rfl)
  try simp only [Act.put, List.setIfInBounds_toArray, List.set_cons_zero, List.set_cons_succ]
  simp only [List.getElem_toArray, List.getElem_cons_succ, List.getElem_cons_zero, Act.put, List.setIfInBounds_toArray, List.set_cons_zero, List.set_cons_succ]
  have HWd := Lib.hid (HW.out w1.drew hbw.drew)
  refine wpAnyH_ready (rs := [4]) (by kernel_rfl) (by simp) ?_
  refine AllReadyH.cons rfl (fun K hK => ?_) ?_
  rotate_left 1
  · exact AllReadyH.nil
  go_simp
  with_reducible refine (HWd.out).mono ?_
  rintro e w2 ⟨a1, n1, c1, mb, f, he, hn1, hS, hM, hA, hb2⟩
  subst he
  have S2 : w2.cell? ⟨w.heap.size, 0, none⟩ = some (.int .i64 (s : Int)) ∧ w2.cell? ⟨w.heap.size, 1, none⟩ = some (.int .i64 m) ∧ w2.cell? ⟨w.heap.size, 2, none⟩ = some (.slice a q cap) := ⟨kept1 hHeld.1 hb2, kept1 hHeld.2.1 hb2, kept1 hHeld.2.2 hb2⟩
  refine hK.out _ _ S2 (fun hHeld2 => ?_)
  clear hK K
  try simp only [List.getElem_toArray, List.getElem_cons_succ, List.getElem_cons_zero, Act.put, List.setIfInBounds_toArray, List.set_cons_zero, List.set_cons_succ]
  have HS2 := Lib.hid (signs_after hV hn1 hS.out hM.out hA.out (cap := c1) w2 (Below.refl _ _))
  have hbw2 : Below w.heap.size w w2 := Below.trans hbw.drew (hb2.mono (Below.size hbw.drew))
  clear hn1 hS hM hA hb2 HW HWd
  refine wpAnyH_ready (rs := [5]) (by kernel_rfl) (by simp) ?_
  refine AllReadyH.cons rfl (fun K hK => ?_) ?_
  rotate_left 1
  · exact AllReadyH.nil
  go_simp
  with_reducible refine (HS2.out).mono ?_
  rintro e w3 ⟨v, he, hO⟩
  subst he
  have S3 : w3.cell? ⟨w.heap.size, 0, none⟩ = some (.int .i64 (s : Int)) ∧ w3.cell? ⟨w.heap.size, 1, none⟩ = some (.int .i64 m) ∧ w3.cell? ⟨w.heap.size, 2, none⟩ = some (.slice a q cap) := ⟨kept1 S2.1 hO.out.b, kept1 S2.2.1 hO.out.b, kept1 S2.2.2 hO.out.b⟩
  refine hK.out _ _ S3 (fun hHeld3 => ?_)
  clear hK K HS2
  try simp only [List.getElem_toArray, List.getElem_cons_succ, List.getElem_cons_zero, Act.put, List.setIfInBounds_toArray, List.set_cons_zero, List.set_cons_succ]
  obtain ⟨a3, c3, rfl, hG⟩ := hO.out.at
  have hbw3 : Below w.heap.size w w3 := hbw2.trans (hO.out.b.mono hbw2.size)
  replace hG := Lib.hid hG
  clear hO hHeld hHeld2 hbw2
  refine wpAnyH_ready (rs := [6]) (by kernel_rfl) (by simp) ?_
  refine AllReadyH.cons rfl (fun K hK => ?_) ?_
  rotate_left 1
  · exact AllReadyH.nil
  go_simp
  with_reducible refine (HF.out w3 a3 c3 hG).mono ?_
  rintro e w4 ⟨lb, wb, cl, cw, he, hl, hw, _, _, _, hb4⟩
  subst he
  have S4 : w4.cell? ⟨w.heap.size, 0, none⟩ = some (.int .i64 (s : Int)) ∧ w4.cell? ⟨w.heap.size, 1, none⟩ = some (.int .i64 m) ∧ w4.cell? ⟨w.heap.size, 2, none⟩ = some (.slice a q cap) := ⟨kept1 S3.1 hb4, kept1 S3.2.1 hb4, kept1 S3.2.2 hb4⟩
  refine hK.out _ _ S4 (fun hHeld4 => ?_)
  clear hK K HF
  try simp only [List.getElem_toArray, List.getElem_cons_succ, List.getElem_cons_zero, Act.put, List.setIfInBounds_toArray, List.set_cons_zero, List.set_cons_succ]
  refine wpAnyH_take (i := 7) (v := ?_) rfl (by kernel_rfl) (by kernel_rfl) (by kernel_rfl) (fun _ _ _ h => h) (Or.inl ⟨by rfl, ?_⟩) (by assumption) ?_
  rotate_left 1
  · (intro w hSw; (try dsimp only at hSw); go_simp; all_goals with_reducible rfl)
  try simp only [Act.put, List.setIfInBounds_toArray, List.set_cons_zero, List.set_cons_succ]
  refine wpAnyH_take (i := 8) (v := ?_) rfl (by kernel_rfl) (by kernel_rfl) (by kernel_rfl) (fun _ _ _ h => h) (Or.inl ⟨by rfl, ?_⟩) (by assumption) ?_
  rotate_left 1
  · (intro w hSw; (try dsimp only at hSw); go_simp; all_goals with_reducible rfl)
  try simp only [Act.put, List.setIfInBounds_toArray, List.set_cons_zero, List.set_cons_succ]
  refine wpAnyH_take (i := 9) (v := ?_) rfl (by kernel_rfl) (by kernel_rfl) (by kernel_rfl) (fun _ _ _ h => h) (Or.inl ⟨by rfl, ?_⟩) (by assumption) ?_
  rotate_left 1
  · (intro w hSw; (try dsimp only at hSw); go_simp; all_goals with_reducible rfl)
  try simp only [Act.put, List.setIfInBounds_toArray, List.set_cons_zero, List.set_cons_succ]
  refine wpAnyH_take (i := 10) (v := ?_) rfl (by kernel_rfl) (by kernel_rfl) (by kernel_rfl) (fun _ _ _ h => h) (Or.inl ⟨by rfl, ?_⟩) (by assumption) ?_
  rotate_left 1
  · (intro w hSw; (try dsimp only at hSw); go_simp; all_goals with_reducible rfl)
  try simp only [Act.put, List.setIfInBounds_toArray, List.set_cons_zero, List.set_cons_succ]
  simp only [List.getElem_toArray, List.getElem_cons_succ, List.getElem_cons_zero, Act.put, List.setIfInBounds_toArray, List.set_cons_zero, List.set_cons_succ]
  refine wpAnyH_done (by kernel_rfl) ?_ _
  show wpList _ _ _ _ _ _
  have hbf := hbw3.trans (hb4.mono hbw3.size)
  clear S0 S2 S3 S4 hHeld3 hHeld4
  go_wp2
  go_ret3
  exact ⟨lb, wb, cl, cw, rfl, hl, hw, hbf⟩
end Go.Proofs.YtidcedilfhmllaaDoor
