/- Contracts of the specification of layer 3: Signs. Written by genSi.py. -/
import Derived.Test.YtidcedilfhmllaaDoorZJzzh
set_option linter.unusedSimpArgs false
set_option linter.unusedVariables false
namespace Pl
theorem all16_all : (List.range 16).all (fun k => all16[k]? == some (k / 2, k % 2 == 1)) = true := by decide +kernel
theorem all16_at {k : Nat} (h : k < 16) : all16[k]? = some (k / 2, k % 2 == 1) := by
  have := range_all all16_all h
  exact beq_iff_eq.1 this
/-- the signs, the first k of all tried -/
def rsg (R : List (St × List Int)) (p : Int) (k : Nat) : List (Nat × Bool) := (all16.take k).filter fun g => decide ((⟨p, g.1, g.2⟩ : St) ∈ R.map Prod.fst)
theorem rsg_step (R : List (St × List Int)) (p : Int) {k : Nat} (h : k < 16) : rsg R p (k + 1) = rsg R p k ++ if decide ((⟨p, k / 2, k % 2 == 1⟩ : St) ∈ R.map Prod.fst) then [(k / 2, k % 2 == 1)] else [] := by
  have h1 := all16_at h
  obtain ⟨hk, he⟩ := List.getElem?_eq_some_iff.1 h1
  unfold rsg
  rw [List.take_succ_eq_append_getElem hk, List.filter_append, he, List.filter_cons, List.filter_nil]
theorem rsg_all (L : List Wk) (p : Int) : rsg (ways L p) p 16 = signs L p := by
  unfold rsg signs
  rw [List.take_of_length_le (by decide)]
theorem rsg_len (R : List (St × List Int)) (p : Int) (k : Nat) : (rsg R p k).length ≤ 16 := by
  unfold rsg
  have h1 := List.length_filter_le (fun g : Nat × Bool => decide ((⟨p, g.1, g.2⟩ : St) ∈ R.map Prod.fst)) (all16.take k)
  have h2 : (all16.take k).length ≤ 16 := by
    rw [List.length_take]
    have : all16.length = 16 := by decide
    omega
  omega
def hit (R : List (St × List Int)) (z : St) (i : Nat) : Bool := (R.take i).any fun e => decide (e.1 = z)
theorem hit_step {R : List (St × List Int)} {i : Nat} {e : St × List Int} (h : R[i]? = some e) (z : St) : hit R z (i + 1) = (hit R z i || decide (e.1 = z)) := by
  obtain ⟨hk, he⟩ := List.getElem?_eq_some_iff.1 h
  unfold hit
  rw [List.take_succ_eq_append_getElem hk, List.any_append, he]
  simp
theorem hit_all (R : List (St × List Int)) (z : St) : hit R z R.length = decide (z ∈ R.map Prod.fst) := by
  unfold hit
  rw [List.take_length, Bool.eq_iff_iff, List.any_eq_true, decide_eq_true_eq, List.mem_map]
  exact ⟨fun ⟨e, he, h⟩ => ⟨e, he, of_decide_eq_true h⟩, fun ⟨e, he, h⟩ => ⟨e, he, decide_eq_true h⟩⟩
theorem hit_once {R : List (St × List Int)} (hn : (R.map Prod.fst).Nodup) {i : Nat} {e : St × List Int} (h : R[i]? = some e) {z : St} (hz : e.1 = z) : hit R z i = false := by
  rw [← Bool.not_eq_true]
  intro c
  unfold hit at c
  rw [List.any_eq_true] at c
  obtain ⟨e', h1, h2⟩ := c
  have h2 := of_decide_eq_true h2
  obtain ⟨j, hj, he'⟩ := List.getElem_of_mem h1
  rw [List.length_take] at hj
  rw [List.getElem_take] at he'
  obtain ⟨hi, hei⟩ := List.getElem?_eq_some_iff.1 h
  have hp := List.pairwise_iff_getElem.1 hn j i (by rw [List.length_map]; omega) (by rw [List.length_map]; exact hi) (by omega)
  rw [List.getElem_map, List.getElem_map, he', hei] at hp
  exact hp (h2.trans hz.symm)
end Pl
namespace Go.Proofs.YtidcedilfhmllaaDoor
open Go.RowKit
set_option linter.unusedVariables false
set_option linter.unusedSimpArgs false

/-- a list of signs of one's own, and a sign's box beside it -/
structure SgB (X W : World) (v : Value) (G : List (Nat × Bool)) (sb t : Nat) (mm : Bool) : Prop where
  o : SgO X W v G
  r : SgA W sb t mm
  n : v.ownBlock ≠ some sb
theorem SgO.below {X W W' : World} {v : Value} {G : List (Nat × Bool)} (h : SgO X W v G) (hb : Below W.heap.size W W') : SgO X W' v G := ⟨ownBelow h.o hb, h.b.trans (hb.mono h.b.size)⟩
theorem SgB.below {X W W' : World} {v : Value} {G : List (Nat × Bool)} {sb t : Nat} {mm : Bool} (h : SgB X W v G sb t mm) (hb : Below W.heap.size W W') : SgB X W' v G sb t mm := ⟨h.o.below hb, h.r.below hb, h.n⟩
theorem SgB.new {X W : World} {v : Value} {G : List (Nat × Bool)} (h : SgO X W v G) (t : Nat) (mm : Bool) : SgB X (W.alloc (Obj.cells #[.int .i64 (t : Int), .bool mm] 70)) v G W.heap.size t mm :=
  ⟨h.below (below_alloc (Below.refl _ _) _), sga_new W t mm, fun e => by have := ownLt h.o e; omega⟩
theorem SgB.app {X W w4 : World} {v v' : Value} {G : List (Nat × Bool)} {sb t : Nat} {mm : Bool} {ob : Obj} (h : SgB X W v G sb t mm) (hown : w4.ownsRow X.heap.size 70 2 v' (G.length + 1) (sgCells G ++ [.int .i64 (t : Int), .bool mm])) (hgrow : (W.alloc ob).grownBy w4 v.ownBlock) (hat : v'.ownBlock = v.ownBlock ∨ v'.ownBlock = some (W.heap.size + 1)) : SgB X w4 v' (G ++ [(t, mm)]) sb t mm := by
  have hA := below_alloc (Below.refl W.heap.size W) ob
  have hlt := h.r.lt
  refine ⟨⟨by rw [List.length_append, sgCells_append]; exact hown, (below_alloc h.o.b ob).grown hgrow (by have := h.o.b.size; simp; omega) (fun g hg => ownFar h.o.o hg)⟩, (butGrown hgrow).row (h.r.below hA) h.n, fun e => ?_⟩
  rcases hat with hh | hh
  · exact h.n (by rw [← hh, e])
  · rw [hh] at e
    have := Option.some.inj e
    omega

theorem sgo_base {w X W : World} {v : Value} {G : List (Nat × Bool)} (hX : Below w.heap.size w X) (h : SgO X W v G) : SgO w W v G := ⟨ownBase h.o hX.size, hX.trans (h.b.mono hX.size)⟩
set_option maxRecDepth 100000 in
set_option maxHeartbeats 8000000 in
theorem rSigns_any (s m : Int) (hm1 : m ≤ 6) (a : Option Addr) (q cap : Nat) (L : List Pl.Wk) (hq : L.length = q) (hq2 : q ≤ 16) (hok : Hid (Pl.Ok m L)) (p : Int) (hp : 0 ≤ p ∧ p < m) (w : World) (hL : Hid (WksAt w a L)) :
    Calls Tryd.prog 21 #[.agg #[.int .i64 s, .int .i64 m, .slice a q cap], .int .i64 p] w fun e w' => ∃ v, e = .returned v ∧ Hid (SgO w w' v (Pl.signs L p)) := by
  obtain ⟨i0, hi, hz0, hz1, hz2⟩ := info_parts infoSg
  have HY := Lib.hid (fun (W : World) (hb : Below w.heap.size w W) => rWays_any s m hm1 a q cap L hq hq2 hok p hp W (Lib.hid (hL.out.below hb)))
  have hB0 := Pl.ways_ok hm1 hok.out hp
  have hnd := Lib.hid hB0.nd
  have hR96 := Pl.bf_len hm1 hok.out hp hB0
  clear hB0
  go_enter Tryd.func21, Tryd.ntmps21
  go_upto_region 1 with fail
  have b0 : (w.alloc (Obj.cells #[.int .i64 s, .int .i64 m, .slice a q cap] 34)).cell? ⟨w.heap.size, 0, none⟩ = some (.int .i64 s) := by simp [go_sem]
  have b1 : (w.alloc (Obj.cells #[.int .i64 s, .int .i64 m, .slice a q cap] 34)).cell? ⟨w.heap.size, 1, none⟩ = some (.int .i64 m) := by simp [go_sem]
  have b2 : (w.alloc (Obj.cells #[.int .i64 s, .int .i64 m, .slice a q cap] 34)).cell? ⟨w.heap.size, 2, none⟩ = some (.slice a q cap) := by simp [go_sem]
  have hX : Below w.heap.size w (w.alloc (Obj.cells #[.int .i64 s, .int .i64 m, .slice a q cap] 34)) := below_alloc (Below.refl _ _) _
  generalize (w.alloc (Obj.cells #[.int .i64 s, .int .i64 m, .slice a q cap] 34)) = X0 at *
  go_wp2_with fail
  refine (HY.out _ hX).mono ?_
  rintro e X ⟨wa, n, wc, rfl, hn, hWy, hb1⟩
  replace hX := hX.trans (hb1.mono hX.size)
  clear b0 b1 b2 hb1 HY
  generalize hRR : Pl.ways L p = R at *
  replace hRR := Lib.hid hRR
  clear X0
  have hn96 : n ≤ 96 := by rw [hn.out]; exact hR96
  clear hR96
  go_wp2
  go_loopw [7, 6] (fun iv v wr => ∃ (k : Nat), k ≤ 16 ∧ iv = .int .i64 (k : Int) ∧ Hid (SgO X wr v (Pl.rsg R p k))) (fun iv _ _ => 16 - (RowKit.intOf iv).toNat)
  case atStart => exact ⟨0, by omega, rfl, Lib.hid ⟨World.ownsRow_nil _ _ _ _, Below.refl _ _⟩⟩
  case round =>
    obtain ⟨k, hk, rfl, hO⟩ := hrel
    by_cases hlt : k < 16
    · have i3 : (k : Int) < 16 := by omega
      have i4 : (0 : Int) ≤ (k : Int) := by omega
      have hst := Pl.rsg_step R p hlt
      go_upto_region 7 with fail
      have hd : (k : Int) / 2 = ((k / 2 : Nat) : Int) := by omega
      have hdm : ((k : Int) % 2 == 1) = (k % 2 == 1) := by rw [Bool.eq_iff_iff, beq_iff_eq, beq_iff_eq]; omega
      rw [hd, hdm]
      generalize k / 2 = t at *
      generalize (k % 2 == 1) = mm at *
      replace hst := Lib.hid hst
      clear hd hdm
      have hS := Lib.hid (SgB.new hO.out t mm)
      generalize wr.alloc (Obj.cells #[.int .i64 (t : Int), .bool mm] 70) = Y at *
      generalize wr.heap.size = sb at *
      clear hO
      go_wp2
      go_loopw [9, 6] (fun iv v W => ∃ (i : Nat), i ≤ n ∧ iv = .int .i64 (i : Int) ∧ Hid (SgB X W v (Pl.rsg R p k ++ if Pl.hit R ⟨p, t, mm⟩ i then [(t, mm)] else []) sb t mm)) (fun iv _ _ => n - (RowKit.intOf iv).toNat)
      case atStart => exact ⟨0, by omega, rfl, Lib.hid (by simpa [Pl.hit] using hS.out)⟩
      case round =>
        clear hS Y
        obtain ⟨i, hi', rfl, hS⟩ := hrel
        have hc0 := hS.out.r.cell (i := 0) (by omega)
        have hc1 := hS.out.r.cell (i := 1) (by omega)
        simp only [if_true, if_false, Nat.succ_ne_self] at hc0 hc1
        by_cases hlt2 : i < n
        · have j3 : (i : Int) < (n : Int) := by omega
          have j4 : (0 : Int) ≤ (i : Int) := by omega
          obtain ⟨⟨⟨ep, et, em⟩, ev⟩, he⟩ : ∃ e, R[i]? = some e := ⟨_, List.getElem?_eq_getElem (by have := hn.out; omega)⟩
          obtain ⟨x, eb, ec, rfl, e0, e1, e2, _⟩ := hWy.out i _ he
          simp only at e0 e1 e2
          replace e0 := kept1 e0 hS.out.o.b
          replace e1 := kept1 e1 hS.out.o.b
          replace e2 := kept1 e2 hS.out.o.b
          have hhs := Pl.hit_step he ⟨p, t, mm⟩
          have hon := Pl.hit_once hnd.out he (z := ⟨p, t, mm⟩)
          simp only at hhs hon
          obtain ⟨sm, hsm⟩ : ∃ sm, decide ((et : Int) = (t : Int) ∧ em = mm) = sm := ⟨_, rfl⟩
          have heq := run_eql_sg (et : Int) (t : Int) em mm
          rw [hsm] at heq
          have hgd := sg_guard
          have hdc : decide ((⟨ep, et, em⟩ : Pl.St) = ⟨p, t, mm⟩) = ((ep == p) && sm) := by
            rw [← hsm, Bool.eq_iff_iff, decide_eq_true_eq, Pl.St.mk.injEq, Bool.and_eq_true, beq_iff_eq, decide_eq_true_eq, Int.ofNat_inj]
          replace hsm := Lib.hid hsm
          clear he
          rw [hdc] at hhs
          have hon2 : ((ep == p) && sm) = true → Pl.hit R ⟨p, t, mm⟩ i = false := fun h => hon (of_decide_eq_true (by rw [hdc]; exact h))
          clear hon hdc
          replace hhs := Lib.hid hhs
          replace hon2 := Lib.hid hon2
          by_cases hep : ep = p
          · have hepb : (ep == p) = true := by simpa using hep
            cases sm
            · have hh2 : Pl.hit R ⟨p, t, mm⟩ (i + 1) = Pl.hit R ⟨p, t, mm⟩ i := by rw [hhs.out, hepb]; simp
              replace hh2 := Lib.hid hh2
              clear hhs hon2 hsm
              go_upto_region 10 with fail
              go_quiet (fail)
              clear heq hgd e0 e1 e2
              have hSn := fun nq => Lib.hid (hS.out.below (below_drewN (Below.refl _ _) nq))
              rw [← hh2.out] at hSn
              clear hc0 hc1 hS
              go_wp2
              go_roundw
              case rel => exact ⟨i + 1, by omega, by go_num, hSn _⟩
              case measure => first | (simp [RowKit.intOf]; done) | (simp [RowKit.intOf]; omega) | omega
            · have hh2 : Pl.hit R ⟨p, t, mm⟩ (i + 1) = true := by rw [hhs.out, hepb]; simp
              have hh3 := hon2.out (by rw [hepb]; rfl)
              replace hh2 := Lib.hid hh2
              rw [hh3] at hS
              simp only [Bool.false_eq_true, if_false, List.append_nil] at hS
              clear hhs hon2 hsm
              go_upto_region 10 with fail
              go_quiet (fail)
              clear heq hgd e0 e1 e2
              have hSn := fun nq => Lib.hid (hS.out.below (below_drewN (Below.refl _ _) nq))
              clear hS
              go_upto_region 11 with fail
              have hS2 := hSn nq
              clear hSn hc0 hc1
              generalize wr.drewN nq = V at *
              have hc0 := hS2.out.r.cell (i := 0) (by omega)
              have hc1 := hS2.out.r.cell (i := 1) (by omega)
              simp only [if_true, if_false, Nat.succ_ne_self] at hc0 hc1
              have o9 := hS2.out.o.o
              have hl16 := Pl.rsg_len R p k
              have hsz := hS2.out.o.b.size
              go_wp2_with (first
                | (at_builtin; refine wpList_append_own_at _ rfl (.tmp 47) (.tmp 49) 46 rfl X.heap.size 70 i0 (.agg #[.int .i64 0, .bool false]) 2 16 Tryd.underlying46 hi hz0 hz1 hz2 rfl (by decide) _ _ _ rfl (o9.alloc _) ⟨V.heap.size, 0, none⟩ 1 1 [.int .i64 (t : Int), .bool mm] rfl rfl ?c1 ?c2 ?c3 ?c4 ?c5 ?_)
                | fail)
              case c2 => first | exact ⟨rfl, rfl⟩ | (intro u hu; simp at hu; rcases hu with rfl | rfl <;> rfl)
              case c3 => unfold maxLen; omega
              case c4 => omega
              case c5 => first | omega | (simp; omega)
              intro v'' w4 hown' hgrow hnn hat
              have hSn := hS2.out.app hown' hgrow hat
              rw [show Pl.rsg R p k ++ [(t, mm)] = Pl.rsg R p k ++ (if Pl.hit R ⟨p, t, mm⟩ (i + 1) then [(t, mm)] else []) by rw [hh2.out]; rfl] at hSn
              replace hSn := Lib.hid hSn
              clear hown' hgrow hnn hat o9 hc0 hc1 hS2 hh2 hh3 hst
              go_wp2
              go_roundw
              case rel => exact ⟨i + 1, by omega, by go_num, hSn⟩
              case measure => first | (simp [RowKit.intOf]; done) | (simp [RowKit.intOf]; omega) | omega
          · have hepb : (ep == p) = false := by simpa using hep
            have hh2 : Pl.hit R ⟨p, t, mm⟩ (i + 1) = Pl.hit R ⟨p, t, mm⟩ i := by rw [hhs.out, hepb]; simp
            replace hh2 := Lib.hid hh2
            clear hhs hon2 hsm hep
            go_upto_region 10 with fail
            go_quiet (fail)
            clear heq hgd e0 e1 e2
            have hSn := fun nq => Lib.hid (hS.out.below (below_drewN (Below.refl _ _) nq))
            rw [← hh2.out] at hSn
            clear hc0 hc1 hS
            go_wp2
            go_roundw
            case rel => exact ⟨i + 1, by omega, by go_num, hSn _⟩
            case measure => first | (simp [RowKit.intOf]; done) | (simp [RowKit.intOf]; omega) | omega
        · obtain rfl : i = n := by omega
          have j3 : ¬ (i : Int) < (i : Int) := by omega
          have hha := Pl.hit_all R ⟨p, t, mm⟩
          rw [← hn.out] at hha
          have hOn := hS.out.o
          rw [hha, ← hst.out] at hOn
          replace hOn := Lib.hid hOn
          clear hS hha hc0 hc1
          go_wp2
          go_roundw
          case rel => exact ⟨k + 1, by omega, by go_num, hOn⟩
          case measure => first | (simp [RowKit.intOf]; done) | (simp [RowKit.intOf]; omega) | omega
    · obtain rfl : k = 16 := by omega
      have hO2 := hO.out
      rw [← hRR.out, Pl.rsg_all] at hO2
      have hfin := Lib.hid (sgo_base hX hO2)
      clear hO hO2
      go_wp2
      go_ret
      exact ⟨_, rfl, hfin⟩
end Go.Proofs.YtidcedilfhmllaaDoor
