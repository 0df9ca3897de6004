/- The law PlateFollows: Follow returns what the specification returns. -/
import Derived.Test.YtmkjmpkicmadcaaDoorZ29
import Derived.Test.YtmkjmpkicmadcaaDoorZJzzd
import Derived.Test.YtmkjmpkicmadcaaDoorZJzzf
import Derived.Test.YtmkjmpkicmadcaaDoorZJy
import Derived.Test.YtmkjmpkicmadcaaDoorZ13
import Derived.Test.YtmkjmpkicmadcaaDoorZJlp
set_option linter.unusedSimpArgs false
set_option linter.unusedVariables false
namespace Pl
theorem okS_inS (q : Nat) (g : Int) : okS q g = inS q g := by
  unfold okS inS ix wof
  apply decide_eq_decide.2
  split <;> omega
theorem stc_lsd (q : Nat) (l : List Int) : stc q [l] = lsd q l := by
  unfold stc lsd
  have h : l.all (okS q) = l.all (inS q) := by
    congr 1
    funext g
    exact okS_inS q g
  simp only [List.any_cons, List.any_nil, Bool.or_false, List.all_cons, List.all_nil, Bool.and_true, decide_eq_true_eq, h]
theorem okS_stps {q : Nat} {l : List Int} (h : lsd q l = 0) : l.length ≤ 96 ∧ ∀ k ∈ l, k ∈ stps q := by
  unfold lsd at h
  split at h
  · cases h
  · split at h
    · rename_i h1 h2
      refine ⟨by omega, fun k hk => mem_stps.2 ?_⟩
      have := of_decide_eq_true (List.all_eq_true.1 h2 k hk)
      omega
    · cases h
end Pl
namespace Go.Proofs.YtmkjmpkicmadcaaDoor
open Go.RowKit

set_option maxRecDepth 100000 in
set_option maxHeartbeats 4000000 in
theorem follows_wide (s m : Int) (a : Option Addr) (q cap : Nat) (L : List Pl.Wk) (hq : Hid (L.length = q)) (p : Int) (x : Option Addr) (n c : Nat) (l : List Int) (hn : Hid (l.length = n)) (hi : Hid (∀ g ∈ l, -9223372036854775808 ≤ g ∧ g ≤ 9223372036854775807)) (w : World) (hL : Hid (WksAt w a L)) (hl : Hid (NsAt w x l)) (hT : Hid (Tab w.heap.size w)) (h20 : ¬ q ≤ 20) :
    Calls Tryd.prog 4 #[.agg #[.int .i64 s, .int .i64 m, .slice a q cap], .int .i64 p, .slice x n c] w (LawPost w) := by
  have HS := Lib.hid (fun (W : World) (hb : Below w.heap.size w W) => sanityP_any W (Lib.hid (Tab.mono (hT.out.on hb) hb.size)))
  have i20 : ¬ (q : Int) ≤ 20 := by omega
  have HM := fun (W : World) => pSmall_any s m a q cap false (Lib.hid (decide_eq_false h20)) W
  replace HM := Lib.hid HM
  clear h20 i20
  go_enter Tryd.func4, Tryd.ntmps4
  go_wp2_with fail
  refine (HM.out _).mono ?_
  rintro e w1 ⟨rfl, hb1⟩
  have b0 : w1.cell? ⟨w.heap.size, 0, none⟩ = some (.int .i64 s) := kept1 (by simp [go_sem]) hb1
  have b1 : w1.cell? ⟨w.heap.size, 1, none⟩ = some (.int .i64 m) := kept1 (by simp [go_sem]) hb1
  have b2 : w1.cell? ⟨w.heap.size, 2, none⟩ = some (.slice a q cap) := kept1 (by simp [go_sem]) hb1
  have hW : Below w.heap.size w w1 := (by repeat (first | with_reducible exact Below.refl _ _ | with_reducible assumption | refine below_drewN ?_ _ | refine Below.drew ?_ | refine Below.alloc ?_ (by first | (simp; done) | (simp; omega) | omega) _ | refine Below.setCell ?_ (by first | (simp; done) | (simp; omega) | omega) _ | refine Below.trans ?_ (Below.mono (by assumption) (by first | (simp; done) | (simp; omega) | omega))))
  clear hb1 HM
  go_wp2_with fail
  refine (HS.out _ hW).mono ?_
  rintro e w2 ⟨rfl, hb2⟩
  replace hW := hW.trans (hb2.mono hW.size)
  go_wp2
  go_ret
  exact ⟨rfl, hW⟩

set_option maxRecDepth 100000 in
set_option maxHeartbeats 4000000 in
theorem follows_long (s m : Int) (a : Option Addr) (q cap : Nat) (L : List Pl.Wk) (hq : Hid (L.length = q)) (p : Int) (x : Option Addr) (n c : Nat) (l : List Int) (hn : Hid (l.length = n)) (hi : Hid (∀ g ∈ l, -9223372036854775808 ≤ g ∧ g ≤ 9223372036854775807)) (w : World) (hL : Hid (WksAt w a L)) (hl : Hid (NsAt w x l)) (hT : Hid (Tab w.heap.size w)) (h20 : q ≤ 20) (h100 : 100 < n) :
    Calls Tryd.prog 4 #[.agg #[.int .i64 s, .int .i64 m, .slice a q cap], .int .i64 p, .slice x n c] w (LawPost w) := by
  have HS := Lib.hid (fun (W : World) (hb : Below w.heap.size w W) => sanityP_any W (Lib.hid (Tab.mono (hT.out.on hb) hb.size)))
  have i100 : (100 : Int) < (n : Int) := by omega
  have HM := fun (W : World) => pSmall_any s m a q cap true (Lib.hid (decide_eq_true h20)) W
  replace HM := Lib.hid HM
  go_enter Tryd.func4, Tryd.ntmps4
  go_wp2_with fail
  refine (HM.out _).mono ?_
  rintro e w1 ⟨rfl, hb1⟩
  have b0 : w1.cell? ⟨w.heap.size, 0, none⟩ = some (.int .i64 s) := kept1 (by simp [go_sem]) hb1
  have b1 : w1.cell? ⟨w.heap.size, 1, none⟩ = some (.int .i64 m) := kept1 (by simp [go_sem]) hb1
  have b2 : w1.cell? ⟨w.heap.size, 2, none⟩ = some (.slice a q cap) := kept1 (by simp [go_sem]) hb1
  have hW : Below w.heap.size w w1 := (by repeat (first | with_reducible exact Below.refl _ _ | with_reducible assumption | refine below_drewN ?_ _ | refine Below.drew ?_ | refine Below.alloc ?_ (by first | (simp; done) | (simp; omega) | omega) _ | refine Below.setCell ?_ (by first | (simp; done) | (simp; omega) | omega) _ | refine Below.trans ?_ (Below.mono (by assumption) (by first | (simp; done) | (simp; omega) | omega))))
  clear hb1 HM
  go_wp2_with fail
  refine (HS.out _ hW).mono ?_
  rintro e w2 ⟨rfl, hb2⟩
  replace hW := hW.trans (hb2.mono hW.size)
  go_wp2
  go_ret
  exact ⟨rfl, hW⟩

set_option maxRecDepth 100000 in
set_option maxHeartbeats 4000000 in
theorem follows_bad (s m : Int) (a : Option Addr) (q cap : Nat) (L : List Pl.Wk) (hq : Hid (L.length = q)) (p : Int) (x : Option Addr) (n c : Nat) (l : List Int) (hn : Hid (l.length = n)) (hi : Hid (∀ g ∈ l, -9223372036854775808 ≤ g ∧ g ≤ 9223372036854775807)) (w : World) (hL : Hid (WksAt w a L)) (hl : Hid (NsAt w x l)) (hT : Hid (Tab w.heap.size w)) (h20 : q ≤ 20) (h100 : ¬ 100 < n) (cp : Int) (hcp : Hid (Pl.cpl s m L p = cp)) (h0 : cp ≠ 0) :
    Calls Tryd.prog 4 #[.agg #[.int .i64 s, .int .i64 m, .slice a q cap], .int .i64 p, .slice x n c] w (LawPost w) := by
  have HS := Lib.hid (fun (W : World) (hb : Below w.heap.size w W) => sanityP_any W (Lib.hid (Tab.mono (hT.out.on hb) hb.size)))
  have i100 : ¬ (100 : Int) < (n : Int) := by omega
  have HM := fun (W : World) => pSmall_any s m a q cap true (Lib.hid (decide_eq_true h20)) W
  replace HM := Lib.hid HM
  have hf : Pl.fol s m L p l = (⟨0, 0, false⟩, cp) := by
    unfold Pl.fol
    rw [hcp.out, if_pos h0]
  have HF : Hid (∀ (W : World), Below w.heap.size w W → Calls Tryd.prog 15 #[.agg #[.int .i64 s, .int .i64 m, .slice a q cap], .int .i64 p, .slice x n c] W fun e w' => e = .returned (.tuple #[.int .i64 0, .agg #[.int .i64 0, .bool false], .int .i64 cp]) ∧ Below W.heap.size W w') := Lib.hid (fun W hb => by
    have h := pFollowP_any s m a cap L p x c l hi W (Lib.hid (hL.out.below hb)) (Lib.hid (hl.out.below hb))
    rw [hf, hq.out, hn.out] at h
    exact h)
  have HK := Lib.hid (fun (W : World) (hb : Below w.heap.size w W) => pAsked_any s m a cap L q hq p W (Lib.hid (hL.out.below hb)))
  have heq := run_eql_sg 0 0 false false
  have hgd := sg_guard
  go_enter Tryd.func4, Tryd.ntmps4
  go_wp2_with fail
  refine (HM.out _).mono ?_
  rintro e w1 ⟨rfl, hb1⟩
  have b0 : w1.cell? ⟨w.heap.size, 0, none⟩ = some (.int .i64 s) := kept1 (by simp [go_sem]) hb1
  have b1 : w1.cell? ⟨w.heap.size, 1, none⟩ = some (.int .i64 m) := kept1 (by simp [go_sem]) hb1
  have b2 : w1.cell? ⟨w.heap.size, 2, none⟩ = some (.slice a q cap) := kept1 (by simp [go_sem]) hb1
  have hW : Below w.heap.size w w1 := (by repeat (first | with_reducible exact Below.refl _ _ | with_reducible assumption | refine below_drewN ?_ _ | refine Below.drew ?_ | refine Below.alloc ?_ (by first | (simp; done) | (simp; omega) | omega) _ | refine Below.setCell ?_ (by first | (simp; done) | (simp; omega) | omega) _ | refine Below.trans ?_ (Below.mono (by assumption) (by first | (simp; done) | (simp; omega) | omega))))
  clear hb1 HM
  go_wp2_with fail
  refine (HF.out _ hW).mono ?_
  rintro e w2 ⟨rfl, hb2⟩
  replace hW := hW.trans (hb2.mono hW.size)
  replace b0 := kept1 b0 hb2
  replace b1 := kept1 b1 hb2
  replace b2 := kept1 b2 hb2
  go_upto_region 4 with fail
  have g0 : (w2.alloc (Obj.cells #[.int .i64 0, .bool false] 38)).cell? ⟨w2.heap.size, 0, none⟩ = some (.int .i64 0) := by simp [go_sem]
  have g1 : (w2.alloc (Obj.cells #[.int .i64 0, .bool false] 38)).cell? ⟨w2.heap.size, 1, none⟩ = some (.bool false) := by simp [go_sem]
  have hb3 : Below w2.heap.size w2 (w2.alloc (Obj.cells #[.int .i64 0, .bool false] 38)) := below_alloc (Below.refl _ _) _
  replace b0 := kept1 b0 hb3
  replace b1 := kept1 b1 hb3
  replace b2 := kept1 b2 hb3
  replace hW := hW.trans (hb3.mono hW.size)
  clear hb2 hb3
  generalize w2.alloc (Obj.cells #[.int .i64 0, .bool false] 38) = w3 at *
  generalize w2.heap.size = sb at *
  clear w2
  go_wp2_with fail
  refine (HK.out _ hW).mono ?_
  rintro e w4 ⟨rfl, hb2⟩
  replace hW := hW.trans (hb2.mono hW.size)
  replace b0 := kept1 b0 hb2
  replace b1 := kept1 b1 hb2
  replace b2 := kept1 b2 hb2
  replace g0 := kept1 g0 hb2
  replace g1 := kept1 g1 hb2
  clear hb2 HK HF
  rw [hcp.out]
  have n0 : (cp == 0) = false := by simpa using h0
  clear hf
  go_upto_region 8 with fail
  have t0 : (w4.alloc (Obj.cells #[.int .i64 0, .int .i64 0, .bool false] 44)).cell? ⟨w4.heap.size, 0, none⟩ = some (.int .i64 0) := by simp [go_sem]
  have t1 : (w4.alloc (Obj.cells #[.int .i64 0, .int .i64 0, .bool false] 44)).cell? ⟨w4.heap.size, 1, none⟩ = some (.int .i64 0) := by simp [go_sem]
  have t2 : (w4.alloc (Obj.cells #[.int .i64 0, .int .i64 0, .bool false] 44)).cell? ⟨w4.heap.size, 2, none⟩ = some (.bool false) := by simp [go_sem]
  have hb3 : Below w4.heap.size w4 (w4.alloc (Obj.cells #[.int .i64 0, .int .i64 0, .bool false] 44)) := below_alloc (Below.refl _ _) _
  replace b0 := kept1 b0 hb3
  replace b1 := kept1 b1 hb3
  replace b2 := kept1 b2 hb3
  replace g0 := kept1 g0 hb3
  replace g1 := kept1 g1 hb3
  replace hW := hW.trans (hb3.mono hW.size)
  clear hb3
  generalize w4.alloc (Obj.cells #[.int .i64 0, .int .i64 0, .bool false] 44) = w5 at *
  generalize w4.heap.size = tb at *
  go_wp2_with fail
  refine (HS.out _ hW).mono ?_
  rintro e w9 ⟨rfl, hb2⟩
  replace hW := hW.trans (hb2.mono hW.size)
  replace g0 := kept1 g0 hb2
  replace g1 := kept1 g1 hb2
  replace t0 := kept1 t0 hb2
  replace t1 := kept1 t1 hb2
  replace t2 := kept1 t2 hb2
  go_wp2
  go_ret
  exact ⟨rfl, hW⟩

set_option maxRecDepth 100000 in
set_option maxHeartbeats 4000000 in
theorem follows_steps (s m : Int) (a : Option Addr) (q cap : Nat) (L : List Pl.Wk) (hq : Hid (L.length = q)) (p : Int) (x : Option Addr) (n c : Nat) (l : List Int) (hn : Hid (l.length = n)) (hi : Hid (∀ g ∈ l, -9223372036854775808 ≤ g ∧ g ≤ 9223372036854775807)) (w : World) (hL : Hid (WksAt w a L)) (hl : Hid (NsAt w x l)) (hT : Hid (Tab w.heap.size w)) (h20 : q ≤ 20) (h100 : ¬ 100 < n) (hcp : Hid (Pl.cpl s m L p = 0)) (ls : Int) (hls : Hid (Pl.lsd q l = ls)) (h0 : ls ≠ 0) :
    Calls Tryd.prog 4 #[.agg #[.int .i64 s, .int .i64 m, .slice a q cap], .int .i64 p, .slice x n c] w (LawPost w) := by
  have HS := Lib.hid (fun (W : World) (hb : Below w.heap.size w W) => sanityP_any W (Lib.hid (Tab.mono (hT.out.on hb) hb.size)))
  have i100 : ¬ (100 : Int) < (n : Int) := by omega
  have HM := fun (W : World) => pSmall_any s m a q cap true (Lib.hid (decide_eq_true h20)) W
  replace HM := Lib.hid HM
  have hf : Pl.fol s m L p l = (⟨0, 0, false⟩, ls) := by
    unfold Pl.fol
    rw [hcp.out, if_neg (by simp), Pl.stc_lsd, hq.out, hls.out, if_pos h0]
  have HF : Hid (∀ (W : World), Below w.heap.size w W → Calls Tryd.prog 15 #[.agg #[.int .i64 s, .int .i64 m, .slice a q cap], .int .i64 p, .slice x n c] W fun e w' => e = .returned (.tuple #[.int .i64 0, .agg #[.int .i64 0, .bool false], .int .i64 ls]) ∧ Below W.heap.size W w') := Lib.hid (fun W hb => by
    have h := pFollowP_any s m a cap L p x c l hi W (Lib.hid (hL.out.below hb)) (Lib.hid (hl.out.below hb))
    rw [hf, hq.out, hn.out] at h
    exact h)
  have hq16 : q ≤ 16 := by rw [← hq.out]; exact (Pl.chk_ok (Pl.cpl_ok hcp.out).1).2.2.1
  have HI := fun (W : World) (hb : Below w.heap.size w W) => rListed_any s m a q cap hq16 x n c l hn W (Lib.hid (hl.out.below hb))
  rw [hls.out] at HI
  replace HI := Lib.hid HI
  have HK := Lib.hid (fun (W : World) (hb : Below w.heap.size w W) => pAsked_any s m a cap L q hq p W (Lib.hid (hL.out.below hb)))
  have heq := run_eql_sg 0 0 false false
  have hgd := sg_guard
  go_enter Tryd.func4, Tryd.ntmps4
  go_wp2_with fail
  refine (HM.out _).mono ?_
  rintro e w1 ⟨rfl, hb1⟩
  have b0 : w1.cell? ⟨w.heap.size, 0, none⟩ = some (.int .i64 s) := kept1 (by simp [go_sem]) hb1
  have b1 : w1.cell? ⟨w.heap.size, 1, none⟩ = some (.int .i64 m) := kept1 (by simp [go_sem]) hb1
  have b2 : w1.cell? ⟨w.heap.size, 2, none⟩ = some (.slice a q cap) := kept1 (by simp [go_sem]) hb1
  have hW : Below w.heap.size w w1 := (by repeat (first | with_reducible exact Below.refl _ _ | with_reducible assumption | refine below_drewN ?_ _ | refine Below.drew ?_ | refine Below.alloc ?_ (by first | (simp; done) | (simp; omega) | omega) _ | refine Below.setCell ?_ (by first | (simp; done) | (simp; omega) | omega) _ | refine Below.trans ?_ (Below.mono (by assumption) (by first | (simp; done) | (simp; omega) | omega))))
  clear hb1 HM
  go_wp2_with fail
  refine (HF.out _ hW).mono ?_
  rintro e w2 ⟨rfl, hb2⟩
  replace hW := hW.trans (hb2.mono hW.size)
  replace b0 := kept1 b0 hb2
  replace b1 := kept1 b1 hb2
  replace b2 := kept1 b2 hb2
  go_upto_region 4 with fail
  have g0 : (w2.alloc (Obj.cells #[.int .i64 0, .bool false] 38)).cell? ⟨w2.heap.size, 0, none⟩ = some (.int .i64 0) := by simp [go_sem]
  have g1 : (w2.alloc (Obj.cells #[.int .i64 0, .bool false] 38)).cell? ⟨w2.heap.size, 1, none⟩ = some (.bool false) := by simp [go_sem]
  have hb3 : Below w2.heap.size w2 (w2.alloc (Obj.cells #[.int .i64 0, .bool false] 38)) := below_alloc (Below.refl _ _) _
  replace b0 := kept1 b0 hb3
  replace b1 := kept1 b1 hb3
  replace b2 := kept1 b2 hb3
  replace hW := hW.trans (hb3.mono hW.size)
  clear hb2 hb3
  generalize w2.alloc (Obj.cells #[.int .i64 0, .bool false] 38) = w3 at *
  generalize w2.heap.size = sb at *
  clear w2
  go_wp2_with fail
  refine (HK.out _ hW).mono ?_
  rintro e w4 ⟨rfl, hb2⟩
  replace hW := hW.trans (hb2.mono hW.size)
  replace b0 := kept1 b0 hb2
  replace b1 := kept1 b1 hb2
  replace b2 := kept1 b2 hb2
  replace g0 := kept1 g0 hb2
  replace g1 := kept1 g1 hb2
  clear hb2 HK HF
  rw [hcp.out]
  have n0 : (ls == 0) = false := by simpa using h0
  clear hf
  go_wp2_with fail
  refine (HI.out _ hW).mono ?_
  rintro e w6 ⟨rfl, hb2⟩
  replace hW := hW.trans (hb2.mono hW.size)
  replace b0 := kept1 b0 hb2
  replace b1 := kept1 b1 hb2
  replace b2 := kept1 b2 hb2
  replace g0 := kept1 g0 hb2
  replace g1 := kept1 g1 hb2
  clear hb2 HI
  go_upto_region 8 with fail
  have t0 : (w6.alloc (Obj.cells #[.int .i64 0, .int .i64 0, .bool false] 44)).cell? ⟨w6.heap.size, 0, none⟩ = some (.int .i64 0) := by simp [go_sem]
  have t1 : (w6.alloc (Obj.cells #[.int .i64 0, .int .i64 0, .bool false] 44)).cell? ⟨w6.heap.size, 1, none⟩ = some (.int .i64 0) := by simp [go_sem]
  have t2 : (w6.alloc (Obj.cells #[.int .i64 0, .int .i64 0, .bool false] 44)).cell? ⟨w6.heap.size, 2, none⟩ = some (.bool false) := by simp [go_sem]
  have hb3 : Below w6.heap.size w6 (w6.alloc (Obj.cells #[.int .i64 0, .int .i64 0, .bool false] 44)) := below_alloc (Below.refl _ _) _
  replace b0 := kept1 b0 hb3
  replace b1 := kept1 b1 hb3
  replace b2 := kept1 b2 hb3
  replace g0 := kept1 g0 hb3
  replace g1 := kept1 g1 hb3
  replace hW := hW.trans (hb3.mono hW.size)
  clear hb3
  generalize w6.alloc (Obj.cells #[.int .i64 0, .int .i64 0, .bool false] 44) = w5 at *
  generalize w6.heap.size = tb at *
  go_wp2_with fail
  refine (HS.out _ hW).mono ?_
  rintro e w9 ⟨rfl, hb2⟩
  replace hW := hW.trans (hb2.mono hW.size)
  replace g0 := kept1 g0 hb2
  replace g1 := kept1 g1 hb2
  replace t0 := kept1 t0 hb2
  replace t1 := kept1 t1 hb2
  replace t2 := kept1 t2 hb2
  go_wp2
  go_ret
  exact ⟨rfl, hW⟩

set_option maxRecDepth 100000 in
set_option maxHeartbeats 4000000 in
theorem follows_none (s m : Int) (a : Option Addr) (q cap : Nat) (L : List Pl.Wk) (hq : Hid (L.length = q)) (p : Int) (x : Option Addr) (n c : Nat) (l : List Int) (hn : Hid (l.length = n)) (hi : Hid (∀ g ∈ l, -9223372036854775808 ≤ g ∧ g ≤ 9223372036854775807)) (w : World) (hL : Hid (WksAt w a L)) (hl : Hid (NsAt w x l)) (hT : Hid (Tab w.heap.size w)) (h20 : q ≤ 20) (h100 : ¬ 100 < n) (hcp : Hid (Pl.cpl s m L p = 0)) (hls : Hid (Pl.lsd q l = 0)) (hr : Hid (Pl.runs (Pl.adv L) ⟨p, 0, false⟩ l = none)) :
    Calls Tryd.prog 4 #[.agg #[.int .i64 s, .int .i64 m, .slice a q cap], .int .i64 p, .slice x n c] w (LawPost w) := by
  have HS := Lib.hid (fun (W : World) (hb : Below w.heap.size w W) => sanityP_any W (Lib.hid (Tab.mono (hT.out.on hb) hb.size)))
  have i100 : ¬ (100 : Int) < (n : Int) := by omega
  have HM := fun (W : World) => pSmall_any s m a q cap true (Lib.hid (decide_eq_true h20)) W
  replace HM := Lib.hid HM
  have hf : Pl.fol s m L p l = (⟨0, 0, false⟩, 8) := by
    unfold Pl.fol
    rw [hcp.out, if_neg (by simp), Pl.stc_lsd, hq.out, hls.out, if_neg (by simp), hr.out]
  have HF : Hid (∀ (W : World), Below w.heap.size w W → Calls Tryd.prog 15 #[.agg #[.int .i64 s, .int .i64 m, .slice a q cap], .int .i64 p, .slice x n c] W fun e w' => e = .returned (.tuple #[.int .i64 0, .agg #[.int .i64 0, .bool false], .int .i64 8]) ∧ Below W.heap.size W w') := Lib.hid (fun W hb => by
    have h := pFollowP_any s m a cap L p x c l hi W (Lib.hid (hL.out.below hb)) (Lib.hid (hl.out.below hb))
    rw [hf, hq.out, hn.out] at h
    exact h)
  have ⟨hc1, _⟩ := Pl.cpl_ok hcp.out
  have ⟨_, _, hq16', hOk⟩ := Pl.chk_ok hc1
  have hq16 : q ≤ 16 := by rw [← hq.out]; exact hq16'
  have ⟨hn96', hin⟩ := Pl.okS_stps hls.out
  have hn96 : n ≤ 96 := by rw [← hn.out]; exact hn96'
  have HI := fun (W : World) (hb : Below w.heap.size w W) => rListed_any s m a q cap hq16 x n c l hn W (Lib.hid (hl.out.below hb))
  rw [hls.out] at HI
  replace HI := Lib.hid HI
  have HG : Hid (∀ (W : World), Below w.heap.size w W → Calls Tryd.prog 18 #[.agg #[.int .i64 s, .int .i64 m, .slice a q cap], .int .i64 p, .slice x n c] W fun e w' => e = .returned (.tuple #[.agg #[.int .i64 0, .int .i64 0, .bool false], .bool false]) ∧ Below W.heap.size W w') := Lib.hid (fun W hb => by
    have h := rFollow_any s m a q cap L hq.out hq16 (Lib.hid hOk) p x n c l hn hn96 (Lib.hid hin) W (Lib.hid (hL.out.below hb)) (Lib.hid (hl.out.below hb))
    rw [hr.out] at h
    exact h)
  clear hc1 hq16' hOk hn96' hin
  have HK := Lib.hid (fun (W : World) (hb : Below w.heap.size w W) => pAsked_any s m a cap L q hq p W (Lib.hid (hL.out.below hb)))
  have heq := run_eql_sg 0 0 false false
  have hgd := sg_guard
  go_enter Tryd.func4, Tryd.ntmps4
  go_wp2_with fail
  refine (HM.out _).mono ?_
  rintro e w1 ⟨rfl, hb1⟩
  have b0 : w1.cell? ⟨w.heap.size, 0, none⟩ = some (.int .i64 s) := kept1 (by simp [go_sem]) hb1
  have b1 : w1.cell? ⟨w.heap.size, 1, none⟩ = some (.int .i64 m) := kept1 (by simp [go_sem]) hb1
  have b2 : w1.cell? ⟨w.heap.size, 2, none⟩ = some (.slice a q cap) := kept1 (by simp [go_sem]) hb1
  have hW : Below w.heap.size w w1 := (by repeat (first | with_reducible exact Below.refl _ _ | with_reducible assumption | refine below_drewN ?_ _ | refine Below.drew ?_ | refine Below.alloc ?_ (by first | (simp; done) | (simp; omega) | omega) _ | refine Below.setCell ?_ (by first | (simp; done) | (simp; omega) | omega) _ | refine Below.trans ?_ (Below.mono (by assumption) (by first | (simp; done) | (simp; omega) | omega))))
  clear hb1 HM
  go_wp2_with fail
  refine (HF.out _ hW).mono ?_
  rintro e w2 ⟨rfl, hb2⟩
  replace hW := hW.trans (hb2.mono hW.size)
  replace b0 := kept1 b0 hb2
  replace b1 := kept1 b1 hb2
  replace b2 := kept1 b2 hb2
  go_upto_region 4 with fail
  have g0 : (w2.alloc (Obj.cells #[.int .i64 0, .bool false] 38)).cell? ⟨w2.heap.size, 0, none⟩ = some (.int .i64 0) := by simp [go_sem]
  have g1 : (w2.alloc (Obj.cells #[.int .i64 0, .bool false] 38)).cell? ⟨w2.heap.size, 1, none⟩ = some (.bool false) := by simp [go_sem]
  have hb3 : Below w2.heap.size w2 (w2.alloc (Obj.cells #[.int .i64 0, .bool false] 38)) := below_alloc (Below.refl _ _) _
  replace b0 := kept1 b0 hb3
  replace b1 := kept1 b1 hb3
  replace b2 := kept1 b2 hb3
  replace hW := hW.trans (hb3.mono hW.size)
  clear hb2 hb3
  generalize w2.alloc (Obj.cells #[.int .i64 0, .bool false] 38) = w3 at *
  generalize w2.heap.size = sb at *
  clear w2
  go_wp2_with fail
  refine (HK.out _ hW).mono ?_
  rintro e w4 ⟨rfl, hb2⟩
  replace hW := hW.trans (hb2.mono hW.size)
  replace b0 := kept1 b0 hb2
  replace b1 := kept1 b1 hb2
  replace b2 := kept1 b2 hb2
  replace g0 := kept1 g0 hb2
  replace g1 := kept1 g1 hb2
  clear hb2 HK HF
  rw [hcp.out]
  clear hf
  go_wp2_with fail
  refine (HI.out _ hW).mono ?_
  rintro e w6 ⟨rfl, hb2⟩
  replace hW := hW.trans (hb2.mono hW.size)
  replace b0 := kept1 b0 hb2
  replace b1 := kept1 b1 hb2
  replace b2 := kept1 b2 hb2
  replace g0 := kept1 g0 hb2
  replace g1 := kept1 g1 hb2
  clear hb2 HI
  go_upto_region 8 with fail
  have rT : SP (w6.alloc (Obj.cells #[.int .i64 0, .int .i64 0, .bool false] 44)) w6.heap.size ⟨0, 0, false⟩ := sp_new w6 ⟨0, 0, false⟩
  have hb3 : Below w6.heap.size w6 (w6.alloc (Obj.cells #[.int .i64 0, .int .i64 0, .bool false] 44)) := below_alloc (Below.refl _ _) _
  have hst : sb ≠ w6.heap.size := Nat.ne_of_lt (block_lt_of_cell g0)
  have hbt : w.heap.size ≤ w6.heap.size := hW.size
  replace b0 := kept1 b0 hb3
  replace b1 := kept1 b1 hb3
  replace b2 := kept1 b2 hb3
  replace g0 := kept1 g0 hb3
  replace g1 := kept1 g1 hb3
  replace hW := hW.trans (hb3.mono hW.size)
  clear hb3
  generalize w6.alloc (Obj.cells #[.int .i64 0, .int .i64 0, .bool false] 44) = w5 at *
  generalize w6.heap.size = tb at *
  go_wp2_with fail
  refine (HG.out _ hW).mono ?_
  rintro e w7 ⟨rfl, hb2⟩
  replace hW := hW.trans (hb2.mono hW.size)
  replace rT := rT.below hb2
  replace g0 := kept1 g0 hb2
  replace g1 := kept1 g1 hb2
  clear hb2 HG b0 b1 b2
  go_upto_region 10 with fail
  have hb3 : Below w7.heap.size w7 (w7.alloc (Obj.cells #[.int .i64 0, .int .i64 0, .bool false] 44)) := below_alloc (Below.refl _ _) _
  have rU : SP (w7.alloc (Obj.cells #[.int .i64 0, .int .i64 0, .bool false] 44)) w7.heap.size ⟨0, 0, false⟩ := sp_new w7 ⟨0, 0, false⟩
  replace rT := rT.below hb3
  replace g0 := kept1 g0 hb3
  replace g1 := kept1 g1 hb3
  replace hW := hW.trans (hb3.mono hW.size)
  clear hb3
  generalize w7.alloc (Obj.cells #[.int .i64 0, .int .i64 0, .bool false] 44) = w8 at *
  generalize w7.heap.size = ub at *
  have u0 : w8.cell? ⟨ub, 0, none⟩ = some (.int .i64 0) := World.rowIs.cell rU (i := 0) (by omega)
  have u1 : w8.cell? ⟨ub, 1, none⟩ = some (.int .i64 0) := World.rowIs.cell rU (i := 1) (by omega)
  have u2 : w8.cell? ⟨ub, 2, none⟩ = some (.bool false) := World.rowIs.cell rU (i := 2) (by omega)
  have z0 := World.rowIs.frozen rT 0
  have z1 := World.rowIs.frozen rT 1
  have z2 := World.rowIs.frozen rT 2
  have t0' : w8.cell? ⟨tb, 0, none⟩ = some (.int .i64 0) := World.rowIs.cell rT (i := 0) (by omega)
  have t1' : w8.cell? ⟨tb, 1, none⟩ = some (.int .i64 0) := World.rowIs.cell rT (i := 1) (by omega)
  have t2' : w8.cell? ⟨tb, 2, none⟩ = some (.bool false) := World.rowIs.cell rT (i := 2) (by omega)
  have rV : SP (((w8.setCell ⟨tb, 0, none⟩ (.int .i64 0)).setCell ⟨tb, 1, none⟩ (.int .i64 0)).setCell ⟨tb, 2, none⟩ (.bool false)) tb ⟨0, 0, false⟩ := SP.set rT ⟨0, 0, false⟩
  have hV : Below w.heap.size w (((w8.setCell ⟨tb, 0, none⟩ (.int .i64 0)).setCell ⟨tb, 1, none⟩ (.int .i64 0)).setCell ⟨tb, 2, none⟩ (.bool false)) := ((hW.setCell (p := ⟨tb, 0, none⟩) hbt _).setCell (p := ⟨tb, 1, none⟩) hbt _).setCell (p := ⟨tb, 2, none⟩) hbt _
  have g0' : (((w8.setCell ⟨tb, 0, none⟩ (.int .i64 0)).setCell ⟨tb, 1, none⟩ (.int .i64 0)).setCell ⟨tb, 2, none⟩ (.bool false)).cell? ⟨sb, 0, none⟩ = _ := far3c g0 hst
  have g1' : (((w8.setCell ⟨tb, 0, none⟩ (.int .i64 0)).setCell ⟨tb, 1, none⟩ (.int .i64 0)).setCell ⟨tb, 2, none⟩ (.bool false)).cell? ⟨sb, 1, none⟩ = _ := far3c g1 hst
  go_upto_region 11 with fail
  clear u0 u1 u2 z0 z1 z2 t0' t1' t2' g0 g1 hW rT rU
  generalize ((w8.setCell ⟨tb, 0, none⟩ (.int .i64 0)).setCell ⟨tb, 1, none⟩ (.int .i64 0)).setCell ⟨tb, 2, none⟩ (.bool false) = w10 at *
  have g0 := g0'
  have g1 := g1'
  have hW := hV
  have t0 : w10.cell? ⟨tb, 0, none⟩ = some (.int .i64 0) := World.rowIs.cell rV (i := 0) (by omega)
  have t1 : w10.cell? ⟨tb, 1, none⟩ = some (.int .i64 0) := World.rowIs.cell rV (i := 1) (by omega)
  have t2 : w10.cell? ⟨tb, 2, none⟩ = some (.bool false) := World.rowIs.cell rV (i := 2) (by omega)
  clear rV hV g0' g1' hst
  go_wp2_with fail
  refine (HS.out _ hW).mono ?_
  rintro e w9 ⟨rfl, hb2⟩
  replace hW := hW.trans (hb2.mono hW.size)
  replace g0 := kept1 g0 hb2
  replace g1 := kept1 g1 hb2
  replace t0 := kept1 t0 hb2
  replace t1 := kept1 t1 hb2
  replace t2 := kept1 t2 hb2
  go_wp2
  go_ret
  exact ⟨rfl, hW⟩

set_option maxRecDepth 100000 in
set_option maxHeartbeats 4000000 in
theorem follows_some (s m : Int) (a : Option Addr) (q cap : Nat) (L : List Pl.Wk) (hq : Hid (L.length = q)) (p : Int) (x : Option Addr) (n c : Nat) (l : List Int) (hn : Hid (l.length = n)) (hi : Hid (∀ g ∈ l, -9223372036854775808 ≤ g ∧ g ≤ 9223372036854775807)) (w : World) (hL : Hid (WksAt w a L)) (hl : Hid (NsAt w x l)) (hT : Hid (Tab w.heap.size w)) (h20 : q ≤ 20) (h100 : ¬ 100 < n) (hcp : Hid (Pl.cpl s m L p = 0)) (hls : Hid (Pl.lsd q l = 0)) (P : Int) (T : Nat) (M : Bool) (hr : Hid (Pl.runs (Pl.adv L) ⟨p, 0, false⟩ l = some ⟨P, T, M⟩)) :
    Calls Tryd.prog 4 #[.agg #[.int .i64 s, .int .i64 m, .slice a q cap], .int .i64 p, .slice x n c] w (LawPost w) := by
  have HS := Lib.hid (fun (W : World) (hb : Below w.heap.size w W) => sanityP_any W (Lib.hid (Tab.mono (hT.out.on hb) hb.size)))
  have i100 : ¬ (100 : Int) < (n : Int) := by omega
  have HM := fun (W : World) => pSmall_any s m a q cap true (Lib.hid (decide_eq_true h20)) W
  replace HM := Lib.hid HM
  have hf : Pl.fol s m L p l = (⟨P, T, M⟩, 0) := by
    unfold Pl.fol
    rw [hcp.out, if_neg (by simp), Pl.stc_lsd, hq.out, hls.out, if_neg (by simp), hr.out]
  have HF : Hid (∀ (W : World), Below w.heap.size w W → Calls Tryd.prog 15 #[.agg #[.int .i64 s, .int .i64 m, .slice a q cap], .int .i64 p, .slice x n c] W fun e w' => e = .returned (.tuple #[.int .i64 P, .agg #[.int .i64 (T : Int), .bool M], .int .i64 0]) ∧ Below W.heap.size W w') := Lib.hid (fun W hb => by
    have h := pFollowP_any s m a cap L p x c l hi W (Lib.hid (hL.out.below hb)) (Lib.hid (hl.out.below hb))
    rw [hf, hq.out, hn.out] at h
    exact h)
  have ⟨hc1, _⟩ := Pl.cpl_ok hcp.out
  have ⟨_, _, hq16', hOk⟩ := Pl.chk_ok hc1
  have hq16 : q ≤ 16 := by rw [← hq.out]; exact hq16'
  have ⟨hn96', hin⟩ := Pl.okS_stps hls.out
  have hn96 : n ≤ 96 := by rw [← hn.out]; exact hn96'
  have HI := fun (W : World) (hb : Below w.heap.size w W) => rListed_any s m a q cap hq16 x n c l hn W (Lib.hid (hl.out.below hb))
  rw [hls.out] at HI
  replace HI := Lib.hid HI
  have HG : Hid (∀ (W : World), Below w.heap.size w W → Calls Tryd.prog 18 #[.agg #[.int .i64 s, .int .i64 m, .slice a q cap], .int .i64 p, .slice x n c] W fun e w' => e = .returned (.tuple #[.agg #[.int .i64 P, .int .i64 (T : Int), .bool M], .bool true]) ∧ Below W.heap.size W w') := Lib.hid (fun W hb => by
    have h := rFollow_any s m a q cap L hq.out hq16 (Lib.hid hOk) p x n c l hn hn96 (Lib.hid hin) W (Lib.hid (hL.out.below hb)) (Lib.hid (hl.out.below hb))
    rw [hr.out] at h
    exact h)
  clear hc1 hq16' hOk hn96' hin
  have HK := Lib.hid (fun (W : World) (hb : Below w.heap.size w W) => pAsked_any s m a cap L q hq p W (Lib.hid (hL.out.below hb)))
  have heq := run_eql_sg (T : Int) (T : Int) M M
  have hgd := sg_guard
  go_enter Tryd.func4, Tryd.ntmps4
  go_wp2_with fail
  refine (HM.out _).mono ?_
  rintro e w1 ⟨rfl, hb1⟩
  have b0 : w1.cell? ⟨w.heap.size, 0, none⟩ = some (.int .i64 s) := kept1 (by simp [go_sem]) hb1
  have b1 : w1.cell? ⟨w.heap.size, 1, none⟩ = some (.int .i64 m) := kept1 (by simp [go_sem]) hb1
  have b2 : w1.cell? ⟨w.heap.size, 2, none⟩ = some (.slice a q cap) := kept1 (by simp [go_sem]) hb1
  have hW : Below w.heap.size w w1 := (by repeat (first | with_reducible exact Below.refl _ _ | with_reducible assumption | refine below_drewN ?_ _ | refine Below.drew ?_ | refine Below.alloc ?_ (by first | (simp; done) | (simp; omega) | omega) _ | refine Below.setCell ?_ (by first | (simp; done) | (simp; omega) | omega) _ | refine Below.trans ?_ (Below.mono (by assumption) (by first | (simp; done) | (simp; omega) | omega))))
  clear hb1 HM
  go_wp2_with fail
  refine (HF.out _ hW).mono ?_
  rintro e w2 ⟨rfl, hb2⟩
  replace hW := hW.trans (hb2.mono hW.size)
  replace b0 := kept1 b0 hb2
  replace b1 := kept1 b1 hb2
  replace b2 := kept1 b2 hb2
  go_upto_region 4 with fail
  have g0 : (w2.alloc (Obj.cells #[.int .i64 (T : Int), .bool M] 38)).cell? ⟨w2.heap.size, 0, none⟩ = some (.int .i64 (T : Int)) := by simp [go_sem]
  have g1 : (w2.alloc (Obj.cells #[.int .i64 (T : Int), .bool M] 38)).cell? ⟨w2.heap.size, 1, none⟩ = some (.bool M) := by simp [go_sem]
  have hb3 : Below w2.heap.size w2 (w2.alloc (Obj.cells #[.int .i64 (T : Int), .bool M] 38)) := below_alloc (Below.refl _ _) _
  replace b0 := kept1 b0 hb3
  replace b1 := kept1 b1 hb3
  replace b2 := kept1 b2 hb3
  replace hW := hW.trans (hb3.mono hW.size)
  clear hb2 hb3
  generalize w2.alloc (Obj.cells #[.int .i64 (T : Int), .bool M] 38) = w3 at *
  generalize w2.heap.size = sb at *
  clear w2
  go_wp2_with fail
  refine (HK.out _ hW).mono ?_
  rintro e w4 ⟨rfl, hb2⟩
  replace hW := hW.trans (hb2.mono hW.size)
  replace b0 := kept1 b0 hb2
  replace b1 := kept1 b1 hb2
  replace b2 := kept1 b2 hb2
  replace g0 := kept1 g0 hb2
  replace g1 := kept1 g1 hb2
  clear hb2 HK HF
  rw [hcp.out]
  clear hf
  go_wp2_with fail
  refine (HI.out _ hW).mono ?_
  rintro e w6 ⟨rfl, hb2⟩
  replace hW := hW.trans (hb2.mono hW.size)
  replace b0 := kept1 b0 hb2
  replace b1 := kept1 b1 hb2
  replace b2 := kept1 b2 hb2
  replace g0 := kept1 g0 hb2
  replace g1 := kept1 g1 hb2
  clear hb2 HI
  go_upto_region 8 with fail
  have rT : SP (w6.alloc (Obj.cells #[.int .i64 0, .int .i64 0, .bool false] 44)) w6.heap.size ⟨0, 0, false⟩ := sp_new w6 ⟨0, 0, false⟩
  have hb3 : Below w6.heap.size w6 (w6.alloc (Obj.cells #[.int .i64 0, .int .i64 0, .bool false] 44)) := below_alloc (Below.refl _ _) _
  have hst : sb ≠ w6.heap.size := Nat.ne_of_lt (block_lt_of_cell g0)
  have hbt : w.heap.size ≤ w6.heap.size := hW.size
  replace b0 := kept1 b0 hb3
  replace b1 := kept1 b1 hb3
  replace b2 := kept1 b2 hb3
  replace g0 := kept1 g0 hb3
  replace g1 := kept1 g1 hb3
  replace hW := hW.trans (hb3.mono hW.size)
  clear hb3
  generalize w6.alloc (Obj.cells #[.int .i64 0, .int .i64 0, .bool false] 44) = w5 at *
  generalize w6.heap.size = tb at *
  go_wp2_with fail
  refine (HG.out _ hW).mono ?_
  rintro e w7 ⟨rfl, hb2⟩
  replace hW := hW.trans (hb2.mono hW.size)
  replace rT := rT.below hb2
  replace g0 := kept1 g0 hb2
  replace g1 := kept1 g1 hb2
  clear hb2 HG b0 b1 b2
  go_upto_region 10 with fail
  have hb3 : Below w7.heap.size w7 (w7.alloc (Obj.cells #[.int .i64 P, .int .i64 (T : Int), .bool M] 44)) := below_alloc (Below.refl _ _) _
  have rU : SP (w7.alloc (Obj.cells #[.int .i64 P, .int .i64 (T : Int), .bool M] 44)) w7.heap.size ⟨P, T, M⟩ := sp_new w7 ⟨P, T, M⟩
  replace rT := rT.below hb3
  replace g0 := kept1 g0 hb3
  replace g1 := kept1 g1 hb3
  replace hW := hW.trans (hb3.mono hW.size)
  clear hb3
  generalize w7.alloc (Obj.cells #[.int .i64 P, .int .i64 (T : Int), .bool M] 44) = w8 at *
  generalize w7.heap.size = ub at *
  have u0 : w8.cell? ⟨ub, 0, none⟩ = some (.int .i64 P) := World.rowIs.cell rU (i := 0) (by omega)
  have u1 : w8.cell? ⟨ub, 1, none⟩ = some (.int .i64 (T : Int)) := World.rowIs.cell rU (i := 1) (by omega)
  have u2 : w8.cell? ⟨ub, 2, none⟩ = some (.bool M) := World.rowIs.cell rU (i := 2) (by omega)
  have z0 := World.rowIs.frozen rT 0
  have z1 := World.rowIs.frozen rT 1
  have z2 := World.rowIs.frozen rT 2
  have t0' : w8.cell? ⟨tb, 0, none⟩ = some (.int .i64 0) := World.rowIs.cell rT (i := 0) (by omega)
  have t1' : w8.cell? ⟨tb, 1, none⟩ = some (.int .i64 0) := World.rowIs.cell rT (i := 1) (by omega)
  have t2' : w8.cell? ⟨tb, 2, none⟩ = some (.bool false) := World.rowIs.cell rT (i := 2) (by omega)
  have rV : SP (((w8.setCell ⟨tb, 0, none⟩ (.int .i64 P)).setCell ⟨tb, 1, none⟩ (.int .i64 (T : Int))).setCell ⟨tb, 2, none⟩ (.bool M)) tb ⟨P, T, M⟩ := SP.set rT ⟨P, T, M⟩
  have hV : Below w.heap.size w (((w8.setCell ⟨tb, 0, none⟩ (.int .i64 P)).setCell ⟨tb, 1, none⟩ (.int .i64 (T : Int))).setCell ⟨tb, 2, none⟩ (.bool M)) := ((hW.setCell (p := ⟨tb, 0, none⟩) hbt _).setCell (p := ⟨tb, 1, none⟩) hbt _).setCell (p := ⟨tb, 2, none⟩) hbt _
  have g0' : (((w8.setCell ⟨tb, 0, none⟩ (.int .i64 P)).setCell ⟨tb, 1, none⟩ (.int .i64 (T : Int))).setCell ⟨tb, 2, none⟩ (.bool M)).cell? ⟨sb, 0, none⟩ = _ := far3c g0 hst
  have g1' : (((w8.setCell ⟨tb, 0, none⟩ (.int .i64 P)).setCell ⟨tb, 1, none⟩ (.int .i64 (T : Int))).setCell ⟨tb, 2, none⟩ (.bool M)).cell? ⟨sb, 1, none⟩ = _ := far3c g1 hst
  go_upto_region 11 with fail
  clear u0 u1 u2 z0 z1 z2 t0' t1' t2' g0 g1 hW rT rU
  generalize ((w8.setCell ⟨tb, 0, none⟩ (.int .i64 P)).setCell ⟨tb, 1, none⟩ (.int .i64 (T : Int))).setCell ⟨tb, 2, none⟩ (.bool M) = w10 at *
  have g0 := g0'
  have g1 := g1'
  have hW := hV
  have t0 : w10.cell? ⟨tb, 0, none⟩ = some (.int .i64 P) := World.rowIs.cell rV (i := 0) (by omega)
  have t1 : w10.cell? ⟨tb, 1, none⟩ = some (.int .i64 (T : Int)) := World.rowIs.cell rV (i := 1) (by omega)
  have t2 : w10.cell? ⟨tb, 2, none⟩ = some (.bool M) := World.rowIs.cell rV (i := 2) (by omega)
  clear rV hV g0' g1' hst
  go_wp2_with fail
  refine (HS.out _ hW).mono ?_
  rintro e w9 ⟨rfl, hb2⟩
  replace hW := hW.trans (hb2.mono hW.size)
  replace g0 := kept1 g0 hb2
  replace g1 := kept1 g1 hb2
  replace t0 := kept1 t0 hb2
  replace t1 := kept1 t1 hb2
  replace t2 := kept1 t2 hb2
  go_wp2
  go_ret
  exact ⟨rfl, hW⟩

theorem plateFollows_any (s m : Int) (a : Option Addr) (q cap : Nat) (L : List Pl.Wk) (hq : Hid (L.length = q)) (p : Int) (x : Option Addr) (n c : Nat) (l : List Int) (hn : Hid (l.length = n)) (hi : Hid (∀ g ∈ l, -9223372036854775808 ≤ g ∧ g ≤ 9223372036854775807)) (w : World) (hL : Hid (WksAt w a L)) (hl : Hid (NsAt w x l)) (hT : Hid (Tab w.heap.size w)) :
    Calls Tryd.prog 4 #[.agg #[.int .i64 s, .int .i64 m, .slice a q cap], .int .i64 p, .slice x n c] w (LawPost w) := by
  by_cases h20 : q ≤ 20
  · by_cases h100 : 100 < n
    · exact follows_long s m a q cap L hq p x n c l hn hi w hL hl hT h20 h100
    · by_cases hcp : Pl.cpl s m L p = 0
      · by_cases hls : Pl.lsd q l = 0
        · cases hr : Pl.runs (Pl.adv L) ⟨p, 0, false⟩ l with
          | none => exact follows_none s m a q cap L hq p x n c l hn hi w hL hl hT h20 h100 (Lib.hid hcp) (Lib.hid hls) (Lib.hid hr)
          | some y =>
            obtain ⟨P, T, M⟩ := y
            exact follows_some s m a q cap L hq p x n c l hn hi w hL hl hT h20 h100 (Lib.hid hcp) (Lib.hid hls) P T M (Lib.hid hr)
        · exact follows_steps s m a q cap L hq p x n c l hn hi w hL hl hT h20 h100 (Lib.hid hcp) _ (Lib.hid rfl) hls
      · exact follows_bad s m a q cap L hq p x n c l hn hi w hL hl hT h20 h100 _ (Lib.hid rfl) hcp
  · exact follows_wide s m a q cap L hq p x n c l hn hi w hL hl hT h20

/-- the law, its arguments in the frame's order -/
theorem plateFollows_true (w : World) (s m : Int) (a : Option Addr) (q cap : Nat) (L : List Pl.Wk) (hq : Hid (L.length = q)) (hL : Hid (WksAt w a L)) (p : Int) (x : Option Addr) (n c : Nat) (l : List Int) (hn : Hid (l.length = n)) (hl : Hid (NsAt w x l)) (hi : Hid (∀ g ∈ l, -9223372036854775808 ≤ g ∧ g ≤ 9223372036854775807)) (hT : Hid (Tab w.heap.size w)) :
    Calls Tryd.prog 4 #[.agg #[.int .i64 s, .int .i64 m, .slice a q cap], .int .i64 p, .slice x n c] w (LawPost w) :=
  plateFollows_any s m a q cap L hq p x n c l hn hi w hL hl hT
end Go.Proofs.YtmkjmpkicmadcaaDoor
