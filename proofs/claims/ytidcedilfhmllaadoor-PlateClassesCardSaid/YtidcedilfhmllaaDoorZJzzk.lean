/- Contracts of the specification of layer 3: Minus, Even, Freedom. Written by genEv.py. -/
import Derived.Test.YtidcedilfhmllaaDoorZJzzj
import Derived.Test.YtidcedilfhmllaaDoorZ14
set_option linter.unusedSimpArgs false
set_option linter.unusedVariables false
namespace Pl
theorem any_at {α : Type} {H : List α} {i : Nat} (h : i < H.length) (f : α → Bool) : (H.take (i + 1)).any f = ((H.take i).any f || f H[i]) := by
  rw [List.take_succ_eq_append_getElem h, List.any_append]
  simp only [List.any_cons, List.any_nil, Bool.or_false]
theorem evs_congr {N : Nat} {l l' : Nat → Nat} {w w' : Nat → Int} (h : ∀ x, x < N → l' x = l x ∧ w' x = w x) : evs N l' w' = evs N l w := by
  unfold evs
  refine List.filter_congr fun x hx => ?_
  obtain ⟨h1, h2⟩ := h x (List.mem_range.1 hx)
  rw [h1, h2]
/-- Freedom, as the specification finds it -/
theorem frd_spec {s : Nat} {m : Int} {L : List Wk} {p : Int} (hV : VS s m L p) : frd s (signs L p) = ((evs (s * s) (rLst s (signs L p)) (rWay s (signs L p))).length : Int) - if (signs L p).any (·.2) then 0 else 1 := by
  have hG := signs_grp hV.m6 hV.ok ⟨hV.p0, hV.pm⟩
  have hu := (clsL_uf hV.s6 hG.lt).1
  rw [evs_congr (fun x hx => rcl_eq hV.s6 hG hu hx)]
  rfl
end Pl
namespace Go.Proofs.YtidcedilfhmllaaDoor
open Go.RowKit
set_option linter.unusedVariables false
set_option linter.unusedSimpArgs false

set_option maxRecDepth 100000 in
set_option maxHeartbeats 2000000 in
theorem rMinus_any (a : Option Addr) (n cap : Nat) (G : List (Nat × Bool)) (hn : Hid (G.length = n)) (hn2 : n ≤ 1000) (R : Bool) (hR : Hid (G.any (·.2) = R)) (w : World) (hg : Hid (SgsAt w a G)) :
    Calls Tryd.prog 56 #[.slice a n cap] w fun e w' => e = .returned (.bool R) ∧ Below w.heap.size w w' := by
  go_enter Tryd.func56, Tryd.ntmps56
  go_wp2
  go_loopw [3] (fun iv wr => ∃ (i : Nat), i ≤ n ∧ iv = .int .i64 (i : Int) ∧ Hid ((G.take i).any (·.2) = false) ∧ Hid (Below w.heap.size w wr)) (fun iv _ => n - (RowKit.intOf iv).toNat)
  case atStart => exact ⟨0, Nat.zero_le _, rfl, Lib.hid (by simp), Lib.hid (Below.refl _ _)⟩
  case round =>
    obtain ⟨i, hi, rfl, hno, hb⟩ := hrel
    by_cases hlt : i < n
    · have j3 : (i : Int) < (n : Int) := by omega
      have j4 : (0 : Int) ≤ (i : Int) := by omega
      have hiG : i < G.length := by have := hn.out; omega
      obtain ⟨y, rfl, c0, c1⟩ := hg.out i hiG
      have hst := Pl.any_at hiG (fun g : Nat × Bool => g.2)
      have hgi : G.getD i (0, false) = G[i] := by rw [List.getD, List.getElem?_eq_getElem hiG]; rfl
      rw [hgi] at c1
      obtain ⟨mm, hmm⟩ : ∃ mm, G[i].2 = mm := ⟨_, rfl⟩
      rw [hmm] at c1 hst
      rw [hno.out] at hst
      replace c1 := kept1 c1 hb.out
      replace hst := Lib.hid hst
      cases mm
      · clear c0 hgi hiG hmm
        go_wp2
        go_roundw
        case rel => exact ⟨i + 1, by omega, by go_num, Lib.hid (by rw [hst.out]; rfl), hb⟩
        case measure => first | (simp [RowKit.intOf]; done) | (simp [RowKit.intOf]; omega) | omega
      · have hR2 : R = true := by
          rw [← hR.out, List.any_eq_true]
          exact ⟨G[i], List.getElem_mem hiG, hmm⟩
        subst hR2
        clear c0 hgi hiG hmm hst hno hR
        go_wp2
        go_ret
        exact ⟨rfl, hb.out⟩
    · obtain rfl : i = n := by omega
      have j3 : ¬ (i : Int) < (i : Int) := by omega
      have hR2 : R = false := by
        have h := hno.out
        rw [List.take_of_length_le (by have := hn.out; omega)] at h
        rw [← hR.out]
        exact h
      subst hR2
      clear hR hno
      go_wp2
      go_ret
      exact ⟨rfl, hb.out⟩

set_option maxRecDepth 100000 in
set_option maxHeartbeats 4000000 in
theorem rEven_any (b1 b2 : Option Addr) (N c1 c2 : Nat) (lf : Nat → Nat) (wf : Nat → Int) (hN : N ≤ 36) (w : World) (hl : Hid (NsAt w b1 ((List.range N).map fun x => (lf x : Int)))) (hw : Hid (NsAt w b2 ((List.range N).map wf))) :
    Calls Tryd.prog 24 #[.agg #[.slice b1 N c1, .slice b2 N c2]] w fun e w' => ∃ v, e = .returned v ∧ Hid (w'.ownsRow w.heap.size 3 1 v (Pl.evs N lf wf).length ((Pl.evs N lf wf).map nV)) ∧ Below w.heap.size w w' := by
  obtain ⟨i0, hi, hz0, hz1, hz2⟩ := info_parts infoI64
  go_enter Tryd.func24, Tryd.ntmps24
  go_upto_region 1 with fail
  have d0 : (w.alloc (Obj.cells #[.slice b1 N c1, .slice b2 N c2] 44)).cell? ⟨w.heap.size, 0, none⟩ = some (.slice b1 N c1) := by simp [go_sem]
  have d1 : (w.alloc (Obj.cells #[.slice b1 N c1, .slice b2 N c2] 44)).cell? ⟨w.heap.size, 1, none⟩ = some (.slice b2 N c2) := by simp [go_sem]
  have hX : Below w.heap.size w (w.alloc (Obj.cells #[.slice b1 N c1, .slice b2 N c2] 44)) := below_alloc (Below.refl _ _) _
  have hsz1 : (w.alloc (Obj.cells #[.slice b1 N c1, .slice b2 N c2] 44)).heap.size = w.heap.size + 1 := by simp
  generalize w.alloc (Obj.cells #[.slice b1 N c1, .slice b2 N c2] 44) = X at *
  have kk0 := Lib.hid (fun (W : World) (hb' : Below (w.heap.size + 1) X W) => (hb'.cell (p := ⟨w.heap.size, 0, none⟩) (Nat.lt_succ_self _)).trans d0)
  have kk1 := Lib.hid (fun (W : World) (hb' : Below (w.heap.size + 1) X W) => (hb'.cell (p := ⟨w.heap.size, 1, none⟩) (Nat.lt_succ_self _)).trans d1)
  replace hsz1 := Lib.hid hsz1
  clear d0 d1
  go_wp2
  go_loopw [4, 3] (fun iv v wr => ∃ k : Nat, k ≤ N ∧ iv = .int .i64 (k : Int) ∧ Hid (wr.ownsRow (w.heap.size + 1) 3 1 v (Pl.evs k lf wf).length ((Pl.evs k lf wf).map nV)) ∧ Hid (Below (w.heap.size + 1) X wr)) (fun iv _ _ => N - (RowKit.intOf iv).toNat)
  case atStart => exact ⟨0, Nat.zero_le _, rfl, Lib.hid (World.ownsRow_nil _ _ _ _), Lib.hid (Below.refl _ _)⟩
  case round =>
    obtain ⟨k, hk, rfl, ho, hb⟩ := hrel
    have d0 := kk0.out _ hb.out
    have d1 := kk1.out _ hb.out
    have hsz : w.heap.size + 1 ≤ wr.heap.size := by have := hb.out.size; have := hsz1.out; omega
    by_cases hlt : k < N
    · have i1 : (k : Int) < (N : Int) := by omega
      have i2 : (0 : Int) ≤ (k : Int) := by omega
      have hbw : Below w.heap.size w wr := hX.trans (hb.out.mono (Nat.le_succ _))
      obtain ⟨y1, rfl, cl1⟩ := (hl.out.below hbw) k (by simp; exact hlt)
      obtain ⟨y2, rfl, cw1⟩ := (hw.out.below hbw) k (by simp; exact hlt)
      rw [List.getD, List.getElem?_map, List.getElem?_range hlt] at cl1 cw1
      simp only [Option.map_some, Option.getD_some] at cl1 cw1
      have hst := Pl.evs_succ lf wf k
      have hle : (Pl.evs k lf wf).length ≤ k := by unfold Pl.evs; refine Nat.le_trans (List.length_filter_le _ _) ?_; simp
      obtain ⟨a, ha⟩ : ∃ a, lf k = a := ⟨_, rfl⟩
      obtain ⟨b, hb2⟩ : ∃ b, wf k = b := ⟨_, rfl⟩
      rw [ha] at cl1 hst
      rw [hb2] at cw1 hst
      clear ha hb2 hbw
      by_cases h1 : a = k
      · have n1 : ((a : Int) == (k : Int)) = true := by rw [h1]; simp
        by_cases h2 : b = 0
        · have n2 : (b != 0) = false := by simp [h2]
          rw [if_neg (fun h => h.2 h2)] at hst
          replace hst := Lib.hid hst
          subst h2
          go_wp2
          go_roundw
          case rel => exact ⟨k + 1, by omega, by go_num, Lib.hid (by rw [hst.out]; exact ho.out), hb⟩
          case measure => first | (simp [RowKit.intOf]; done) | (simp [RowKit.intOf]; omega) | omega
        · have n2 : (b != 0) = true := by simpa using h2
          rw [if_pos ⟨h1, h2⟩] at hst
          replace hst := Lib.hid hst
          have hown := ho.out
          clear ho h1 h2
          go_wp2_with (first
            | (at_builtin; refine wpList_append_own _ rfl (.tmp 27) (.tmp 29) 22 rfl (w.heap.size + 1) 3 i0 (.int .i64 0) 1 8 Tryd.underlying22 hi hz0 hz1 hz2 rfl (by decide) _ _ _ rfl (hown.alloc _) ⟨wr.heap.size, 0, none⟩ 1 1 [.int .i64 (k : Int)] rfl rfl ?c1 ?c2 ?c3 ?c4 ?c5 ?_)
            | fail)
          case c1 => first | (intro j u hj; match j, hj with | 0, hj => (simp at hj; subst hj; simp [Addr.add])) | (simp [Addr.add, go_sem])
          case c2 => first | rfl | (intro u hu; simp at hu; subst hu; rfl)
          case c3 => unfold maxLen; omega
          case c4 => omega
          case c5 => first | omega | (simp; omega)
          intro v' w4 hown' hgrow hnn
          have hb4 : Hid (Below (w.heap.size + 1) X w4) := Lib.hid ((hb.out.alloc hsz (Obj.cells #[.int .i64 (k : Int)] 3)).grown hgrow (by simp; omega) (fun g hg => ownFar hown hg))
          have hn : Hid (w4.ownsRow (w.heap.size + 1) 3 1 v' (Pl.evs (k + 1) lf wf).length ((Pl.evs (k + 1) lf wf).map nV)) := Lib.hid (by rw [hst.out, List.length_append, List.map_append]; exact hown')
          clear hown hown' hgrow hnn
          go_wp2
          go_roundw
          case rel => exact ⟨k + 1, by omega, by go_num, hn, hb4⟩
          case measure => first | (simp [RowKit.intOf]; done) | (simp [RowKit.intOf]; omega) | omega
      · have n1 : ((a : Int) == (k : Int)) = false := by rw [beq_eq_false_iff_ne]; omega
        rw [if_neg (fun h => h1 h.1)] at hst
        replace hst := Lib.hid hst
        clear h1
        go_wp2
        go_roundw
        case rel => exact ⟨k + 1, by omega, by go_num, Lib.hid (by rw [hst.out]; exact ho.out), hb⟩
        case measure => first | (simp [RowKit.intOf]; done) | (simp [RowKit.intOf]; omega) | omega
    · obtain rfl : k = N := by omega
      have i1 : ¬ (k : Int) < (k : Int) := by omega
      have ho2 := Lib.hid (ownBase ho.out (Nat.le_succ w.heap.size))
      have hbz := hX.trans (hb.out.mono (Nat.le_succ _))
      clear ho hb
      go_wp2
      go_ret
      exact ⟨_, rfl, ho2, hbz⟩

theorem ownLen {w : World} {base n size : Nat} {e : TypeId} {v : Value} {xs : List Value} (h : w.ownsRow base e size v n xs) : ∃ a c, v = .slice a n c := by
  rcases h.2 with ⟨hv, h0⟩ | ⟨g, cap, cur, hv, _⟩
  · exact ⟨none, 0, by rw [hv, h0]⟩
  · exact ⟨_, _, hv⟩
set_option maxRecDepth 100000 in
set_option maxHeartbeats 4000000 in
/-- Freedom, for a valid shop and plate -/
theorem rFreedom_ok (s : Nat) (m : Int) (a : Option Addr) (q cap : Nat) (L : List Pl.Wk) (hq : L.length = q) (p : Int) (hV : Pl.VS s m L p) (w : World) (hL : Hid (WksAt w a L)) :
    Calls Tryd.prog 22 #[.agg #[.int .i64 (s : Int), .int .i64 m, .slice a q cap], .int .i64 p] w fun e w' => e = .returned (.int .i64 (Pl.frd s (Pl.signs L p))) ∧ Below w.heap.size w w' := by
  have HS := Lib.hid (fun (W : World) (hb : Below w.heap.size w W) => rSigns_any (s : Int) m hV.m6 a q cap L hq (by have := hV.q; omega) (Lib.hid hV.ok) p ⟨hV.p0, hV.pm⟩ W (Lib.hid (hL.out.below hb)))
  have hs3 : s * s ≤ 36 := Nat.mul_le_mul hV.s6 hV.s6
  have hfr := Pl.frd_spec hV
  have hsl := Pl.signs_len L p
  have hsg := hV.sg
  have HC := Lib.hid (fun (b : Option Addr) (n c : Nat) (hn : (Pl.signs L p).length = n) (W : World) (hg : Hid (SgsAt W b (Pl.signs L p))) => rClasses_any s hV.s1 hV.s6 b n c (Pl.signs L p) (Lib.hid hn) (by omega) (Lib.hid hsg) W hg)
  obtain ⟨G, hG⟩ : ∃ G, Pl.signs L p = G := ⟨_, rfl⟩
  rw [hG] at HS HC hfr hsl
  rw [hG]
  obtain ⟨R, hR⟩ : ∃ R, G.any (·.2) = R := ⟨_, rfl⟩
  rw [hR] at hfr
  have HM := Lib.hid (fun (b : Option Addr) (n c : Nat) (hn : G.length = n) (W : World) (hg : SgsAt W b G) => rMinus_any b n c G (Lib.hid hn) (by omega) R (Lib.hid hR) W (Lib.hid hg))
  obtain ⟨N, hN⟩ : ∃ N, s * s = N := ⟨_, rfl⟩
  rw [hN] at HC hfr hs3
  obtain ⟨D, hD⟩ : ∃ D, (Pl.evs N (Pl.rLst s G) (Pl.rWay s G)).length = D := ⟨_, rfl⟩
  rw [hD] at hfr
  rw [hfr]
  replace hD := Lib.hid hD
  clear hfr hR hG hN hsg hV hL
  go_enter Tryd.func22, Tryd.ntmps22
  go_upto_region 1 with fail
  have b0 : (w.alloc (Obj.cells #[.int .i64 (s : Int), .int .i64 m, .slice a q cap] 34)).cell? ⟨w.heap.size, 0, none⟩ = some (.int .i64 (s : Int)) := by simp [go_sem]
  have b1 : (w.alloc (Obj.cells #[.int .i64 (s : Int), .int .i64 m, .slice a q cap] 34)).cell? ⟨w.heap.size, 1, none⟩ = some (.int .i64 m) := by simp [go_sem]
  have b2 : (w.alloc (Obj.cells #[.int .i64 (s : Int), .int .i64 m, .slice a q cap] 34)).cell? ⟨w.heap.size, 2, none⟩ = some (.slice a q cap) := by simp [go_sem]
  have hX : Below w.heap.size w (w.alloc (Obj.cells #[.int .i64 (s : Int), .int .i64 m, .slice a q cap] 34)) := below_alloc (Below.refl _ _) _
  generalize (w.alloc (Obj.cells #[.int .i64 (s : Int), .int .i64 m, .slice a q cap] 34)) = X at *
  go_wp2_with fail
  refine (HS.out _ hX).mono ?_
  rintro e w1 ⟨v, rfl, hO⟩
  obtain ⟨ga, gc, rfl, hGs⟩ := hO.out.at
  have hb1 := hO.out.b
  replace hX := hX.trans (hb1.mono hX.size)
  replace b0 := kept1 b0 hb1
  replace hGs := Lib.hid hGs
  obtain ⟨gn, hgn⟩ : ∃ gn, G.length = gn := ⟨_, rfl⟩
  rw [hgn]
  have HC1 := Lib.hid (HC.out ga gn gc hgn w1 hGs)
  have HM1 := Lib.hid (fun (W : World) (hb : Below w1.heap.size w1 W) => HM.out ga gn gc hgn W (hGs.out.below hb))
  clear hO hb1 HS b1 b2 X HC HM hgn
  go_wp2_with fail
  refine (HC1.out).mono ?_
  rintro e w2 ⟨e1, f1, e2, f2, rfl, n1, n2, _, _, hb2⟩
  replace hX := hX.trans (hb2.mono hX.size)
  have HE := rEven_any e1 e2 N f1 f2 (Pl.rLst s G) (Pl.rWay s G) hs3 w2 n1 n2
  replace HE := Lib.hid HE
  clear n1 n2 HC1
  go_wp2_with fail
  refine (HE.out).mono ?_
  rintro e w3 ⟨v, rfl, ho, hb3⟩
  obtain ⟨ea, ec, rfl⟩ := ownLen ho.out
  rw [hD.out]
  replace hX := hX.trans (hb3.mono hX.size)
  replace hb2 := hb2.trans (hb3.mono hb2.size)
  have HM2 := Lib.hid (HM1.out _ hb2)
  have hD9 : D ≤ 36 := by
    rw [← hD.out]
    unfold Pl.evs
    refine Nat.le_trans (List.length_filter_le _ _) ?_
    simpa using hs3
  clear HE ho hD hb3 hb2 HM1
  go_wp2_with fail
  refine (HM2.out).mono ?_
  rintro e w4 ⟨rfl, hb4⟩
  replace hX := hX.trans (hb4.mono hX.size)
  clear HM2 hb4
  cases R
  · go_wp2
    go_ret
    exact ⟨rfl, hX⟩
  · simp only [if_true, Int.sub_zero]
    go_wp2
    go_ret
    exact ⟨rfl, hX⟩
end Go.Proofs.YtidcedilfhmllaaDoor
