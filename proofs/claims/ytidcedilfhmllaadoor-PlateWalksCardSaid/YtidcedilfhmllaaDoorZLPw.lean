/- The law PlateWalks: signs of walks, and shortest closed walks. Written by genLPw.py. -/
import Derived.Test.YtidcedilfhmllaaDoorZ29
import Derived.Test.YtidcedilfhmllaaDoorZJlp
import Derived.Test.YtidcedilfhmllaaDoorZJjg
import Derived.Test.YtidcedilfhmllaaDoorZJwi
import Derived.Test.YtidcedilfhmllaaDoorZJwk
import Derived.Test.YtidcedilfhmllaaDoorZJap
import Derived.Test.YtidcedilfhmllaaDoorZThw
import Derived.Test.YtidcedilfhmllaaDoorZJzzd
import Derived.Test.YtidcedilfhmllaaDoorZ12
import Derived.Test.YtidcedilfhmllaaDoorZJno
set_option linter.unusedSimpArgs false
set_option linter.unusedVariables false
namespace Pl
theorem VS.at_ {s : Nat} {m : Int} {L : List Wk} {p q : Int} (h : VS s m L p) (hq : 0 ≤ q ∧ q < m) : VS s m L q := vs_of (by
  unfold cpl
  rw [(cpl_ok h.c).1, if_neg (by simp), if_pos]
  unfold ix
  exact decide_eq_true hq)
end Pl
namespace Go.Proofs.YtidcedilfhmllaaDoor
open Go.RowKit
set_option linter.unusedVariables false
set_option linter.unusedSimpArgs false
theorem a9_set {Y0 W : World} {g : Nat} {u v : Value} (h : Below Y0.heap.size Y0 W) (hg : Y0.heap.size ≤ g) : Below Y0.heap.size Y0 ((W.setCell ⟨g, 0, none⟩ u).setCell ⟨g, 1, none⟩ v) :=
  (h.setCell (p := ⟨g, 0, none⟩) hg _).setCell (p := ⟨g, 1, none⟩) hg _
theorem a9_end {Y Y0 W : World} {g : Nat} {u v : Value} (h0 : Below Y.heap.size Y Y0) (h : Below Y0.heap.size Y0 W) (hg : Y0.heap.size ≤ g) : Below Y.heap.size Y ((W.setCell ⟨g, 0, none⟩ u).setCell ⟨g, 1, none⟩ v) := by
  have hb := h0.trans (h.mono h0.size)
  exact (hb.setCell (p := ⟨g, 0, none⟩) (Nat.le_trans h0.size hg) _).setCell (p := ⟨g, 1, none⟩) (Nat.le_trans h0.size hg) _

set_option maxRecDepth 100000 in
set_option maxHeartbeats 8000000 in
theorem walks_wide (s m : Int) (a : Option Addr) (q cap : Nat) (L : List Pl.Wk) (hq : Hid (L.length = q)) (p : Int) (x : Option Addr) (n c : Nat) (l1 : List Int) (hn : Hid (l1.length = n)) (hz1 : Hid (x = none → c = 0)) (hi1 : Hid (∀ g ∈ l1, -9223372036854775808 ≤ g ∧ g ≤ 9223372036854775807)) (y : Option Addr) (k d : Nat) (l2 : List Int) (hk : Hid (l2.length = k)) (hz2 : Hid (y = none → d = 0)) (hi2 : Hid (∀ g ∈ l2, -9223372036854775808 ≤ g ∧ g ≤ 9223372036854775807)) (w : World) (hL : Hid (WksAt w a L)) (hl1 : Hid (NsAt w x l1)) (hl2 : Hid (NsAt w y l2)) (hT : Hid (Tab w.heap.size w)) (h20 : ¬ q ≤ 20) :
    Calls Tryd.prog 8 #[.agg #[.int .i64 s, .int .i64 m, .slice a q cap], .int .i64 p, .slice x n c, .slice y k d] w (LawPost w) := by
  have HS := Lib.hid (fun (W : World) (hb : Below w.heap.size w W) => sanityP_any W (Lib.hid (Tab.mono (hT.out.on hb) hb.size)))
  have HM := fun (W : World) => pSmall_any s m a q cap false (Lib.hid (decide_eq_false h20)) W
  replace HM := Lib.hid HM
  go_enter Tryd.func8, Tryd.ntmps8
  go_upto_region 1 with fail
  have b0 : (w.alloc (Obj.cells #[.int .i64 s, .int .i64 m, .slice a q cap] 34)).cell? ⟨w.heap.size, 0, none⟩ = some (.int .i64 s) := by simp [go_sem]
  have b1 : (w.alloc (Obj.cells #[.int .i64 s, .int .i64 m, .slice a q cap] 34)).cell? ⟨w.heap.size, 1, none⟩ = some (.int .i64 m) := by simp [go_sem]
  have b2 : (w.alloc (Obj.cells #[.int .i64 s, .int .i64 m, .slice a q cap] 34)).cell? ⟨w.heap.size, 2, none⟩ = some (.slice a q cap) := by simp [go_sem]
  have hX : Below w.heap.size w (w.alloc (Obj.cells #[.int .i64 s, .int .i64 m, .slice a q cap] 34)) := below_alloc (Below.refl _ _) _
  generalize (w.alloc (Obj.cells #[.int .i64 s, .int .i64 m, .slice a q cap] 34)) = X at *
  go_wp2_with fail
  refine (HM.out _).mono ?_
  rintro e w1 ⟨rfl, hb1⟩
  replace hX := hX.trans (hb1.mono hX.size)
  replace b0 := kept1 b0 hb1
  replace b1 := kept1 b1 hb1
  replace b2 := kept1 b2 hb1
  clear hb1 HM X
  go_wp2_with fail
  refine (HS.out _ hX).mono ?_
  rintro e w9 ⟨rfl, hb9⟩
  replace hX := hX.trans (hb9.mono hX.size)
  go_wp2
  go_ret
  exact ⟨rfl, hX⟩
set_option maxRecDepth 100000 in
set_option maxHeartbeats 8000000 in
theorem walks_long1 (s m : Int) (a : Option Addr) (q cap : Nat) (L : List Pl.Wk) (hq : Hid (L.length = q)) (p : Int) (x : Option Addr) (n c : Nat) (l1 : List Int) (hn : Hid (l1.length = n)) (hz1 : Hid (x = none → c = 0)) (hi1 : Hid (∀ g ∈ l1, -9223372036854775808 ≤ g ∧ g ≤ 9223372036854775807)) (y : Option Addr) (k d : Nat) (l2 : List Int) (hk : Hid (l2.length = k)) (hz2 : Hid (y = none → d = 0)) (hi2 : Hid (∀ g ∈ l2, -9223372036854775808 ≤ g ∧ g ≤ 9223372036854775807)) (w : World) (hL : Hid (WksAt w a L)) (hl1 : Hid (NsAt w x l1)) (hl2 : Hid (NsAt w y l2)) (hT : Hid (Tab w.heap.size w)) (h20 : q ≤ 20) (h40 : 40 < n) :
    Calls Tryd.prog 8 #[.agg #[.int .i64 s, .int .i64 m, .slice a q cap], .int .i64 p, .slice x n c, .slice y k d] w (LawPost w) := by
  have i40 : (40 : Int) < (n : Int) := by omega
  have HS := Lib.hid (fun (W : World) (hb : Below w.heap.size w W) => sanityP_any W (Lib.hid (Tab.mono (hT.out.on hb) hb.size)))
  have HM := fun (W : World) => pSmall_any s m a q cap true (Lib.hid (decide_eq_true h20)) W
  replace HM := Lib.hid HM
  go_enter Tryd.func8, Tryd.ntmps8
  go_upto_region 1 with fail
  have b0 : (w.alloc (Obj.cells #[.int .i64 s, .int .i64 m, .slice a q cap] 34)).cell? ⟨w.heap.size, 0, none⟩ = some (.int .i64 s) := by simp [go_sem]
  have b1 : (w.alloc (Obj.cells #[.int .i64 s, .int .i64 m, .slice a q cap] 34)).cell? ⟨w.heap.size, 1, none⟩ = some (.int .i64 m) := by simp [go_sem]
  have b2 : (w.alloc (Obj.cells #[.int .i64 s, .int .i64 m, .slice a q cap] 34)).cell? ⟨w.heap.size, 2, none⟩ = some (.slice a q cap) := by simp [go_sem]
  have hX : Below w.heap.size w (w.alloc (Obj.cells #[.int .i64 s, .int .i64 m, .slice a q cap] 34)) := below_alloc (Below.refl _ _) _
  generalize (w.alloc (Obj.cells #[.int .i64 s, .int .i64 m, .slice a q cap] 34)) = X at *
  go_wp2_with fail
  refine (HM.out _).mono ?_
  rintro e w1 ⟨rfl, hb1⟩
  replace hX := hX.trans (hb1.mono hX.size)
  replace b0 := kept1 b0 hb1
  replace b1 := kept1 b1 hb1
  replace b2 := kept1 b2 hb1
  clear hb1 HM X
  go_wp2_with fail
  refine (HS.out _ hX).mono ?_
  rintro e w9 ⟨rfl, hb9⟩
  replace hX := hX.trans (hb9.mono hX.size)
  go_wp2
  go_ret
  exact ⟨rfl, hX⟩
set_option maxRecDepth 100000 in
set_option maxHeartbeats 8000000 in
theorem walks_long2 (s m : Int) (a : Option Addr) (q cap : Nat) (L : List Pl.Wk) (hq : Hid (L.length = q)) (p : Int) (x : Option Addr) (n c : Nat) (l1 : List Int) (hn : Hid (l1.length = n)) (hz1 : Hid (x = none → c = 0)) (hi1 : Hid (∀ g ∈ l1, -9223372036854775808 ≤ g ∧ g ≤ 9223372036854775807)) (y : Option Addr) (k d : Nat) (l2 : List Int) (hk : Hid (l2.length = k)) (hz2 : Hid (y = none → d = 0)) (hi2 : Hid (∀ g ∈ l2, -9223372036854775808 ≤ g ∧ g ≤ 9223372036854775807)) (w : World) (hL : Hid (WksAt w a L)) (hl1 : Hid (NsAt w x l1)) (hl2 : Hid (NsAt w y l2)) (hT : Hid (Tab w.heap.size w)) (h20 : q ≤ 20) (h40 : ¬ 40 < n) (h41 : 40 < k) :
    Calls Tryd.prog 8 #[.agg #[.int .i64 s, .int .i64 m, .slice a q cap], .int .i64 p, .slice x n c, .slice y k d] w (LawPost w) := by
  have i40 : ¬ (40 : Int) < (n : Int) := by omega
  have i41 : (40 : Int) < (k : Int) := by omega
  have HS := Lib.hid (fun (W : World) (hb : Below w.heap.size w W) => sanityP_any W (Lib.hid (Tab.mono (hT.out.on hb) hb.size)))
  have HM := fun (W : World) => pSmall_any s m a q cap true (Lib.hid (decide_eq_true h20)) W
  replace HM := Lib.hid HM
  go_enter Tryd.func8, Tryd.ntmps8
  go_upto_region 1 with fail
  have b0 : (w.alloc (Obj.cells #[.int .i64 s, .int .i64 m, .slice a q cap] 34)).cell? ⟨w.heap.size, 0, none⟩ = some (.int .i64 s) := by simp [go_sem]
  have b1 : (w.alloc (Obj.cells #[.int .i64 s, .int .i64 m, .slice a q cap] 34)).cell? ⟨w.heap.size, 1, none⟩ = some (.int .i64 m) := by simp [go_sem]
  have b2 : (w.alloc (Obj.cells #[.int .i64 s, .int .i64 m, .slice a q cap] 34)).cell? ⟨w.heap.size, 2, none⟩ = some (.slice a q cap) := by simp [go_sem]
  have hX : Below w.heap.size w (w.alloc (Obj.cells #[.int .i64 s, .int .i64 m, .slice a q cap] 34)) := below_alloc (Below.refl _ _) _
  generalize (w.alloc (Obj.cells #[.int .i64 s, .int .i64 m, .slice a q cap] 34)) = X at *
  go_wp2_with fail
  refine (HM.out _).mono ?_
  rintro e w1 ⟨rfl, hb1⟩
  replace hX := hX.trans (hb1.mono hX.size)
  replace b0 := kept1 b0 hb1
  replace b1 := kept1 b1 hb1
  replace b2 := kept1 b2 hb1
  clear hb1 HM X
  go_wp2_with fail
  refine (HS.out _ hX).mono ?_
  rintro e w9 ⟨rfl, hb9⟩
  replace hX := hX.trans (hb9.mono hX.size)
  go_wp2
  go_ret
  exact ⟨rfl, hX⟩
set_option maxRecDepth 100000 in
set_option maxHeartbeats 8000000 in
theorem walks_bad (s m : Int) (a : Option Addr) (q cap : Nat) (L : List Pl.Wk) (hq : Hid (L.length = q)) (p : Int) (x : Option Addr) (n c : Nat) (l1 : List Int) (hn : Hid (l1.length = n)) (hz1 : Hid (x = none → c = 0)) (hi1 : Hid (∀ g ∈ l1, -9223372036854775808 ≤ g ∧ g ≤ 9223372036854775807)) (y : Option Addr) (k d : Nat) (l2 : List Int) (hk : Hid (l2.length = k)) (hz2 : Hid (y = none → d = 0)) (hi2 : Hid (∀ g ∈ l2, -9223372036854775808 ≤ g ∧ g ≤ 9223372036854775807)) (w : World) (hL : Hid (WksAt w a L)) (hl1 : Hid (NsAt w x l1)) (hl2 : Hid (NsAt w y l2)) (hT : Hid (Tab w.heap.size w)) (h20 : q ≤ 20) (h40 : ¬ 40 < n) (h41 : ¬ 40 < k) (E : Int) (hE : Hid (Pl.cpl s m L p = E)) (hE0 : E ≠ 0) :
    Calls Tryd.prog 8 #[.agg #[.int .i64 s, .int .i64 m, .slice a q cap], .int .i64 p, .slice x n c, .slice y k d] w (LawPost w) := by
  have i40 : ¬ (40 : Int) < (n : Int) := by omega
  have i41 : ¬ (40 : Int) < (k : Int) := by omega
  have n0 : (E == 0) = false := by simpa using hE0
  have n1 : (E != 0) = true := by simpa using hE0
  have HG := Lib.hid (fun (W : World) (hb : Below w.heap.size w W) => pSigns_no s m a cap L q hq p E hE hE0 W (Lib.hid (hL.out.below hb)))
  have HS := Lib.hid (fun (W : World) (hb : Below w.heap.size w W) => sanityP_any W (Lib.hid (Tab.mono (hT.out.on hb) hb.size)))
  have HM := fun (W : World) => pSmall_any s m a q cap true (Lib.hid (decide_eq_true h20)) W
  replace HM := Lib.hid HM
  go_enter Tryd.func8, Tryd.ntmps8
  go_upto_region 1 with fail
  have b0 : (w.alloc (Obj.cells #[.int .i64 s, .int .i64 m, .slice a q cap] 34)).cell? ⟨w.heap.size, 0, none⟩ = some (.int .i64 s) := by simp [go_sem]
  have b1 : (w.alloc (Obj.cells #[.int .i64 s, .int .i64 m, .slice a q cap] 34)).cell? ⟨w.heap.size, 1, none⟩ = some (.int .i64 m) := by simp [go_sem]
  have b2 : (w.alloc (Obj.cells #[.int .i64 s, .int .i64 m, .slice a q cap] 34)).cell? ⟨w.heap.size, 2, none⟩ = some (.slice a q cap) := by simp [go_sem]
  have hX : Below w.heap.size w (w.alloc (Obj.cells #[.int .i64 s, .int .i64 m, .slice a q cap] 34)) := below_alloc (Below.refl _ _) _
  generalize (w.alloc (Obj.cells #[.int .i64 s, .int .i64 m, .slice a q cap] 34)) = X at *
  go_wp2_with fail
  refine (HM.out _).mono ?_
  rintro e w1 ⟨rfl, hb1⟩
  replace hX := hX.trans (hb1.mono hX.size)
  replace b0 := kept1 b0 hb1
  replace b1 := kept1 b1 hb1
  replace b2 := kept1 b2 hb1
  clear hb1 HM X
  go_wp2_with fail
  refine (HG.out _ hX).mono ?_
  rintro e w2 ⟨rfl, hb2⟩
  replace hX := hX.trans (hb2.mono hX.size)
  clear HG hb2
  go_wp2_with fail
  refine (HS.out _ hX).mono ?_
  rintro e w9 ⟨rfl, hb9⟩
  replace hX := hX.trans (hb9.mono hX.size)
  go_wp2
  go_ret
  exact ⟨rfl, hX⟩
set_option maxRecDepth 100000 in
set_option maxHeartbeats 32000000 in
theorem walks_ok (s : Nat) (m : Int) (a : Option Addr) (q cap : Nat) (L : List Pl.Wk) (hq : Hid (L.length = q)) (p : Int) (x : Option Addr) (n c : Nat) (l1 : List Int) (hn : Hid (l1.length = n)) (hz1 : Hid (x = none → c = 0)) (hi1 : Hid (∀ g ∈ l1, -9223372036854775808 ≤ g ∧ g ≤ 9223372036854775807)) (y : Option Addr) (k d : Nat) (l2 : List Int) (hk : Hid (l2.length = k)) (hz2 : Hid (y = none → d = 0)) (hi2 : Hid (∀ g ∈ l2, -9223372036854775808 ≤ g ∧ g ≤ 9223372036854775807)) (w : World) (hL : Hid (WksAt w a L)) (hl1 : Hid (NsAt w x l1)) (hl2 : Hid (NsAt w y l2)) (hT : Hid (Tab w.heap.size w)) (h20 : q ≤ 20) (h40 : ¬ 40 < n) (h41 : ¬ 40 < k) (hV : Hid (Pl.VS s m L p)) :
    Calls Tryd.prog 8 #[.agg #[.int .i64 (s : Int), .int .i64 m, .slice a q cap], .int .i64 p, .slice x n c, .slice y k d] w (LawPost w) := by
  have i40 : ¬ (40 : Int) < (n : Int) := by omega
  have i41 : ¬ (40 : Int) < (k : Int) := by omega
  have HG := Lib.hid (fun (p' : Int) (hV' : Pl.VS s m L p') (W : World) (hb : Below w.heap.size w W) => pSigns_ok s m a q cap L hq.out p' hV' W (Lib.hid (hL.out.below hb)))
  have HF := Lib.hid (fun (p' : Int) (x' : Option Addr) (n' c' : Nat) (l' : List Int) (hn' : l'.length = n') (hi' : Hid (∀ g ∈ l', -9223372036854775808 ≤ g ∧ g ≤ 9223372036854775807)) (W : World) (hb : Below w.heap.size w W) (hl' : NsAt W x' l') => follow_q (s : Int) m a q cap L hq p' x' n' c' l' hn' hi' W (hL.out.below hb) hl')
  have HW := Lib.hid (fun (t : Nat) (ht : t < 8) (mm : Bool) (W : World) (hb : Below w.heap.size w W) => pWalk_ok s m a q cap L hq.out p hV.out t ht mm W (Lib.hid (hL.out.below hb)))
  have HS := Lib.hid (fun (W : World) (hb : Below w.heap.size w W) => sanityP_any W (Lib.hid (Tab.mono (hT.out.on hb) hb.size)))
  have HM := fun (W : World) => pSmall_any (s : Int) m a q cap true (Lib.hid (decide_eq_true h20)) W
  replace HM := Lib.hid HM
  go_enter Tryd.func8, Tryd.ntmps8
  go_upto_region 1 with fail
  have b0 : (w.alloc (Obj.cells #[.int .i64 (s : Int), .int .i64 m, .slice a q cap] 34)).cell? ⟨w.heap.size, 0, none⟩ = some (.int .i64 (s : Int)) := by simp [go_sem]
  have b1 : (w.alloc (Obj.cells #[.int .i64 (s : Int), .int .i64 m, .slice a q cap] 34)).cell? ⟨w.heap.size, 1, none⟩ = some (.int .i64 m) := by simp [go_sem]
  have b2 : (w.alloc (Obj.cells #[.int .i64 (s : Int), .int .i64 m, .slice a q cap] 34)).cell? ⟨w.heap.size, 2, none⟩ = some (.slice a q cap) := by simp [go_sem]
  have hX : Below w.heap.size w (w.alloc (Obj.cells #[.int .i64 (s : Int), .int .i64 m, .slice a q cap] 34)) := below_alloc (Below.refl _ _) _
  generalize (w.alloc (Obj.cells #[.int .i64 (s : Int), .int .i64 m, .slice a q cap] 34)) = X at *
  go_wp2_with fail
  refine (HM.out _).mono ?_
  rintro e w1 ⟨rfl, hb1⟩
  replace hX := hX.trans (hb1.mono hX.size)
  replace b0 := kept1 b0 hb1
  replace b1 := kept1 b1 hb1
  replace b2 := kept1 b2 hb1
  clear hb1 HM X
  go_wp2_with fail
  refine (HG.out p hV.out _ hX).mono ?_
  rintro e w2 ⟨v, rfl, hO⟩
  obtain ⟨ga, gc, rfl, hGs⟩ := hO.out.at
  replace hGs := Lib.hid hGs
  have hb2 := hO.out.b
  replace hX := hX.trans (hb2.mono hX.size)
  replace b0 := kept1 b0 hb2
  replace b1 := kept1 b1 hb2
  replace b2 := kept1 b2 hb2
  clear hb2 hO
  obtain ⟨⟨⟨q1, t1, m1⟩, f1⟩, hf1⟩ : ∃ z, Pl.fol s m L p l1 = z := ⟨_, rfl⟩
  have HFa := HF.out p x n c l1 hn.out hi1 w2 hX (hl1.out.below hX)
  rw [hf1] at HFa
  simp only at HFa
  replace HFa := Lib.hid HFa
  replace hf1 := Lib.hid hf1
  obtain ⟨gn, hgn⟩ : ∃ gn, (Pl.signs L p).length = gn := ⟨_, rfl⟩
  rw [hgn]
  replace hgn := Lib.hid hgn
  go_wp2_with fail
  refine HFa.out.mono ?_
  rintro e w3 ⟨rfl, hb2⟩
  replace hX := hX.trans (hb2.mono hX.size)
  replace b0 := kept1 b0 hb2
  replace b1 := kept1 b1 hb2
  replace b2 := kept1 b2 hb2
  replace hGs := Lib.hid (hGs.out.below hb2)
  clear hb2 HFa w2
  go_upto_region 7 with fail
  have g1 : SgA (w3.alloc (Obj.cells #[.int .i64 (t1 : Int), .bool m1] 70)) w3.heap.size t1 m1 := sga_new w3 t1 m1
  have hb3 : Below w3.heap.size w3 (w3.alloc (Obj.cells #[.int .i64 (t1 : Int), .bool m1] 70)) := below_alloc (Below.refl _ _) _
  replace hX := hX.trans (hb3.mono hX.size)
  replace b0 := kept1 b0 hb3
  replace b1 := kept1 b1 hb3
  replace b2 := kept1 b2 hb3
  replace hGs := Lib.hid (hGs.out.below hb3)
  clear hb3
  generalize (w3.alloc (Obj.cells #[.int .i64 (t1 : Int), .bool m1] 70)) = X at *
  generalize w3.heap.size = g1b at *
  go_upto_if 70 with fail
  go_cut [14, 15, 16, 17, 18, 19, 20, 21, 22, 23, 24, 25] from 71 to 161 (fun _s14 _s15 _s16 _s17 _s18 _s19 _s20 _s21 _s22 _s23 _s24 _s25 wx => Hid (Below X.heap.size X wx))
  case first =>
    have kk0 := Lib.hid (fun (W : World) (hb' : Below X.heap.size X W) => kept1 b0 hb')
    have kk1 := Lib.hid (fun (W : World) (hb' : Below X.heap.size X W) => kept1 b1 hb')
    have kk2 := Lib.hid (fun (W : World) (hb' : Below X.heap.size X W) => kept1 b2 hb')
    by_cases h0 : f1 = 0
    · subst h0
      obtain ⟨hst1, h96, hr1⟩ : (∀ k ∈ l1, k ∈ Pl.stps L.length) ∧ l1.length ≤ 96 ∧ Pl.runs (Pl.adv L) ⟨p, 0, false⟩ l1 = some ⟨q1, t1, m1⟩ := by
        have hfo := Pl.fol_ok (s := (s : Int)) (m := m) (L := L) (p := p) (l := l1) (by rw [hf1.out])
        rw [hf1.out] at hfo
        exact hfo.2
      have hin1 := Pl.runs_in hV.out.ok l1 ⟨p, 0, false⟩ _ hst1 (by show (0 : Nat) < 8; omega) hr1
      have ht1 : t1 < 8 := hin1.1
      have hq1 := hin1.2 ⟨hV.out.p0, hV.out.pm⟩
      have hV1 : Pl.VS s m L q1 := hV.out.at_ hq1
      have hlen : (Pl.signs L q1).length = gn := (Pl.signs_same hV.out.m6 hV.out.ok ⟨hV.out.p0, hV.out.pm⟩ hst1 hr1).trans hgn.out
      have hmem : q1 = p → (t1, m1) ∈ Pl.signs L p := fun e => (Pl.mem_signs hV.out.m6 hV.out.ok ⟨hV.out.p0, hV.out.pm⟩).2 ⟨l1, hst1, by rw [← e] at hr1 ⊢; exact hr1⟩
      have hmin : q1 = p → (Pl.wlk L p (t1, m1)).length ≤ n := fun e => by
        have h := (Pl.wlk_spec hV.out.m6 hV.out.ok ⟨hV.out.p0, hV.out.pm⟩ (hmem e)).min l1 hst1 (by rw [hr1, e])
        rw [hn.out] at h
        exact h
      clear hin1 hq1
      obtain ⟨⟨⟨r, t2, m2⟩, f2⟩, hf2⟩ : ∃ z, Pl.fol s m L q1 l2 = z := ⟨_, rfl⟩
      obtain ⟨⟨⟨AP, AT, AM⟩, AE⟩, hA⟩ : ∃ z, Pl.fol s m L p (l1 ++ l2) = z := ⟨_, rfl⟩
      have hall : f2 = 0 → t2 < 8 ∧ AP = r ∧ AT = Pl.cmp t1 t2 ∧ AM = (m1 != m2) ∧ AE = 0 := fun e => by
        subst e
        obtain ⟨hst2, h962, hr2⟩ : (∀ k ∈ l2, k ∈ Pl.stps L.length) ∧ l2.length ≤ 96 ∧ Pl.runs (Pl.adv L) ⟨q1, 0, false⟩ l2 = some ⟨r, t2, m2⟩ := by
          have hfo := Pl.fol_ok (s := (s : Int)) (m := m) (L := L) (p := q1) (l := l2) (by rw [hf2])
          rw [hf2] at hfo
          exact hfo.2
        have h := Pl.fol_some (s := (s : Int)) hV.out.c (l := l1 ++ l2) (fun k hk => (List.mem_append.1 hk).elim (hst1 k) (hst2 k)) (by have := hn.out; have := hk.out; rw [List.length_append]; omega) (Pl.runs_two hV.out.ok hst1 hst2 hr1 hr2)
        rw [hA] at h
        simp only [Prod.mk.injEq, Pl.St.mk.injEq] at h
        exact ⟨(Pl.runs_in hV.out.ok l2 ⟨q1, 0, false⟩ _ hst2 (by show (0 : Nat) < 8; omega) hr2).1, h.1.1, h.1.2.1, h.1.2.2, h.2⟩
      have HFb := HF.out q1 y k d l2 hk.out hi2 X hX (hl2.out.below hX)
      rw [hf2] at HFb
      simp only at HFb
      have HFab := fun (x' : Option Addr) (c' : Nat) (W : World) (hb : Below w.heap.size w W) (hl' : NsAt W x' (l1 ++ l2)) => HF.out p x' (n + k) c' (l1 ++ l2) (by rw [List.length_append, hn.out, hk.out]) (Lib.hid (fun g hg => (List.mem_append.1 hg).elim (hi1.out g) (hi2.out g))) W hb hl'
      rw [hA] at HFab
      simp only at HFab
      replace HFab := Lib.hid HFab
      replace HFb := Lib.hid HFb
      replace hst1 := Lib.hid hst1
      replace hr1 := Lib.hid hr1
      replace hlen := Lib.hid hlen
      replace hmem := Lib.hid hmem
      replace hmin := Lib.hid hmin
      replace hall := Lib.hid hall
      replace hV1 := Lib.hid hV1
      clear hf2 hA h96 hf1
      go_wp2_with fail
      refine HFb.out.mono ?_
      rintro e w4 ⟨rfl, hb4⟩
      replace g1 := g1.below hb4
      clear HFb b0 b1 b2
      go_upto_region 9 with fail
      have g2 : SgA (w4.alloc (Obj.cells #[.int .i64 (t2 : Int), .bool m2] 70)) w4.heap.size t2 m2 := sga_new w4 t2 m2
      have hb5 : Below w4.heap.size w4 (w4.alloc (Obj.cells #[.int .i64 (t2 : Int), .bool m2] 70)) := below_alloc (Below.refl _ _) _
      replace g1 := g1.below hb5
      replace hb4 := hb4.trans (hb5.mono hb4.size)
      clear hb5
      generalize (w4.alloc (Obj.cells #[.int .i64 (t2 : Int), .bool m2] 70)) = Y at *
      generalize w4.heap.size = g2b at *
      clear w4
      have hY := hX.trans (hb4.mono hX.size)
      go_cut [17, 18, 19] from 79 to 90 (fun s17 s18 s19 wx => ∃ gb, s17 = .int .i64 AP ∧ s18 = .pointer (some ⟨gb, 0, none⟩) ∧ s19 = .int .i64 AE ∧ Hid (SgA wx gb AT AM) ∧ Hid (Below Y.heap.size Y wx))
      case first =>
        clear hlen hmem hmin hall hV1 HG HW hst1 hr1 g1 g2 HS hGs hgn
        have z0 := kk0.out _ hb4
        have z1 := kk1.out _ hb4
        have z2 := kk2.out _ hb4
        have S0 : Y.drew.cell? ⟨w.heap.size, 0, none⟩ = some (.int .i64 (s : Int)) ∧ Y.drew.cell? ⟨w.heap.size, 1, none⟩ = some (.int .i64 m) ∧ Y.drew.cell? ⟨w.heap.size, 2, none⟩ = some (.slice a q cap) := ⟨z0, z1, z2⟩
        have hS4 := Lib.hid (fun (W : World) (hb : Below Y.drew.heap.size Y.drew W) => (⟨kept1 S0.1 hb, kept1 S0.2.1 hb, kept1 S0.2.2 hb⟩ : W.cell? ⟨w.heap.size, 0, none⟩ = some (.int .i64 (s : Int)) ∧ W.cell? ⟨w.heap.size, 1, none⟩ = some (.int .i64 m) ∧ W.cell? ⟨w.heap.size, 2, none⟩ = some (.slice a q cap)))
        have hYw : Below w.heap.size w Y.drew := hY.drew
        have hYd : Below Y.heap.size Y Y.drew := (Below.refl _ _).drew
        have hA1 := Lib.hid (fun (W : World) (hb : Below Y.drew.heap.size Y.drew W) => hl1.out.below (hYw.trans (hb.mono hYw.size)))
        have hA2 := Lib.hid (fun (W : World) (hb : Below Y.drew.heap.size Y.drew W) => hl2.out.below (hYw.trans (hb.mono hYw.size)))
        have hC := Lib.hid (fun (x' : Option Addr) (c' : Nat) (W : World) (hb : Below Y.drew.heap.size Y.drew W) (hl' : NsAt W x' (l1 ++ l2)) => HFab.out x' c' W (hYw.trans (hb.mono hYw.size)) hl')
        have r0 := Lib.hid (A9.new Y.drew)
        clear hYw HFab HF kk0 kk1 kk2 z0 z1 z2 hb4 hX hY hT hL
        refine wp_region_held_drew (S := fun w' => w'.cell? ⟨w.heap.size, 0, none⟩ = some (.int .i64 (s : Int)) ∧ w'.cell? ⟨w.heap.size, 1, none⟩ = some (.int .i64 m) ∧ w'.cell? ⟨w.heap.size, 2, none⟩ = some (.slice a q cap)) (by kernel_rfl) S0 (fun hHeld => ?_)
        refine wpAnyH_take (i := 0) (v := ?_) rfl (by kernel_rfl) (by kernel_rfl) (by kernel_rfl) (fun _ _ _ h => h) (Or.inl ⟨by rfl, ?_⟩) (by assumption) ?_
        rotate_left 1
        · (intro w hSw; (try dsimp only at hSw); go_simp; all_goals with_reducible rfl)
        try simp only [Act.put, List.setIfInBounds_toArray, List.set_cons_zero, List.set_cons_succ]
        refine wpAnyH_take (i := 1) (v := ?_) rfl (by kernel_rfl) (by kernel_rfl) (by kernel_rfl) (fun _ _ _ h => h) (Or.inl ⟨by rfl, ?_⟩) (by assumption) ?_
        rotate_left 1
        · (intro w hSw; (try dsimp only at hSw); go_simp; all_goals with_reducible rfl)
        try simp only [Act.put, List.setIfInBounds_toArray, List.set_cons_zero, List.set_cons_succ]
        refine wpAnyH_take (i := 3) (v := ?_) rfl (by kernel_rfl) (by kernel_rfl) (by kernel_rfl) (fun _ _ _ h => h) (Or.inl ⟨by rfl, ?_⟩) (by assumption) ?_
        rotate_left 1
        · (intro w hSw; (try dsimp only at hSw); go_simp; all_goals with_reducible rfl)
        try simp only [Act.put, List.setIfInBounds_toArray, List.set_cons_zero, List.set_cons_succ]
        refine wpAnyH_take (i := 5) (v := ?_) rfl (by kernel_rfl) (by kernel_rfl) (by kernel_rfl) (fun _ _ _ h => h) (Or.inl ⟨by rfl, ?_⟩) (by assumption) ?_
        rotate_left 1
        · (intro w hSw; (try dsimp only at hSw); go_simp; all_goals with_reducible rfl)
        try simp only [Act.put, List.setIfInBounds_toArray, List.set_cons_zero, List.set_cons_succ]
        simp only [List.getElem_toArray, List.getElem_cons_succ, List.getElem_cons_zero, Act.put, List.setIfInBounds_toArray, List.set_cons_zero, List.set_cons_succ]
        generalize Y.drew = Y0 at *
        refine wpAnyH_ready (rs := [2, 12]) (by kernel_rfl) (by simp) ?_
        refine AllReadyH.cons rfl (fun K hK => ?_) (AllReadyH.cons rfl (fun K hK => ?_) (AllReadyH.nil))
        · skip
          have hq9 := Lib.hid r0.out.lit
          have hb9 := Lib.hid hq9.out.b
          go_simp
          refine hK.out _ _ (hS4.out _ hb9.out) (fun hH1 => ?_)
          generalize Y0.alloc (Obj.cells #[] 3) = Y1 at *
          generalize hv9 : (Value.slice (some ⟨_, 0, none⟩) 0 0) = vA at *
          clear hv9
          have r1 := hq9
          clear hK K hq9 hb9 r0
          try simp only [List.getElem_toArray, List.getElem_cons_succ, List.getElem_cons_zero, Act.put, List.setIfInBounds_toArray, List.set_cons_zero, List.set_cons_succ]
          refine wpAnyH_ready (rs := [4, 12]) (by kernel_rfl) (by simp) ?_
          refine AllReadyH.cons rfl (fun K hK => ?_) (AllReadyH.cons rfl (fun K hK => ?_) (AllReadyH.nil))
          · skip
            obtain ⟨v1, Y2, hr, hq9, hb9⟩ := r1.out.app hn.out (hA1.out _ r1.out.b) hz1.out (by simp; omega)
            replace hq9 := Lib.hid hq9
            replace hb9 := Lib.hid hb9
            first | refine step_app rfl (.tmp 82) (.tmp 83) 22 rfl rfl rfl hr ?_ | refine wp_app (.tmp 82) (.tmp 83) 22 rfl rfl rfl hr ?_
            refine hK.out _ _ (hS4.out _ hb9.out) (fun hH2 => ?_)
            clear hr
            have r2 := hq9
            clear hK K hq9 hb9 r1
            try simp only [List.getElem_toArray, List.getElem_cons_succ, List.getElem_cons_zero, Act.put, List.setIfInBounds_toArray, List.set_cons_zero, List.set_cons_succ]
            refine wpAnyH_ready (rs := [6, 12]) (by kernel_rfl) (by simp) ?_
            refine AllReadyH.cons rfl (fun K hK => ?_) (AllReadyH.cons rfl (fun K hK => ?_) (AllReadyH.nil))
            · skip
              obtain ⟨v2, Y3, hr, hq9, hb9⟩ := r2.out.app hk.out (hA2.out _ r2.out.b) hz2.out (by have := hn.out; simp; omega)
              replace hq9 := Lib.hid hq9
              replace hb9 := Lib.hid hb9
              obtain ⟨x9, c9, hv9, hN9, _⟩ := ns_of_ownsZ (v := v2) (l := l1 ++ l2) (n := n + k) (by rw [List.length_append, hn.out, hk.out]) (by have h := hq9.out.o _ _ rfl; rw [List.nil_append, List.length_append, hn.out, hk.out] at h; exact h)
              subst hv9
              first | refine step_app rfl (.tmp 84) (.tmp 85) 22 rfl rfl rfl hr ?_ | refine wp_app (.tmp 84) (.tmp 85) 22 rfl rfl rfl hr ?_
              refine hK.out _ _ (hS4.out _ hb9.out) (fun hH3 => ?_)
              replace hN9 := Lib.hid hN9
              clear hr
              have r3 := hq9
              clear hK K hq9 hb9 r2
              try simp only [List.getElem_toArray, List.getElem_cons_succ, List.getElem_cons_zero, Act.put, List.setIfInBounds_toArray, List.set_cons_zero, List.set_cons_succ]
              refine wpAnyH_ready (rs := [7, 12]) (by kernel_rfl) (by simp) ?_
              refine AllReadyH.cons rfl (fun K hK => ?_) (AllReadyH.cons rfl (fun K hK => ?_) (AllReadyH.nil))
              · skip
                have hC9 := Lib.hid (hC.out x9 c9 _ r3.out.b hN9.out)
                go_simp
                with_reducible refine (hC9.out).mono ?_
                rintro e Y4 ⟨he, hb8⟩
                subst he
                have hq9 := Lib.hid (r3.out.call hb8)
                have hb9 := Lib.hid hq9.out.b
                refine hK.out _ _ (hS4.out _ hb9.out) (fun hH4 => ?_)
                clear hb8 hC9
                have r4 := hq9
                clear hK K hq9 hb9 r3
                try simp only [List.getElem_toArray, List.getElem_cons_succ, List.getElem_cons_zero, Act.put, List.setIfInBounds_toArray, List.set_cons_zero, List.set_cons_succ]
                refine wpAnyH_take (i := 8) (v := ?_) rfl (by kernel_rfl) (by kernel_rfl) (by kernel_rfl) (fun _ _ _ h => h) (Or.inl ⟨by rfl, ?_⟩) (by assumption) ?_
                rotate_left 1
                · (intro w hSw; (try dsimp only at hSw); go_simp; all_goals with_reducible rfl)
                try simp only [Act.put, List.setIfInBounds_toArray, List.set_cons_zero, List.set_cons_succ]
                refine wpAnyH_take (i := 9) (v := ?_) rfl (by kernel_rfl) (by kernel_rfl) (by kernel_rfl) (fun _ _ _ h => h) (Or.inl ⟨by rfl, ?_⟩) (by assumption) ?_
                rotate_left 1
                · (intro w hSw; (try dsimp only at hSw); go_simp; all_goals with_reducible rfl)
                try simp only [Act.put, List.setIfInBounds_toArray, List.set_cons_zero, List.set_cons_succ]
                refine wpAnyH_take (i := 10) (v := ?_) rfl (by kernel_rfl) (by kernel_rfl) (by kernel_rfl) (fun _ _ _ h => h) (Or.inl ⟨by rfl, ?_⟩) (by assumption) ?_
                rotate_left 1
                · (intro w hSw; (try dsimp only at hSw); go_simp; all_goals with_reducible rfl)
                try simp only [Act.put, List.setIfInBounds_toArray, List.set_cons_zero, List.set_cons_succ]
                refine wpAnyH_take (i := 11) (v := ?_) rfl (by kernel_rfl) (by kernel_rfl) (by kernel_rfl) (fun _ _ _ h => h) (Or.inl ⟨by rfl, ?_⟩) (by assumption) ?_
                rotate_left 1
                · (intro w hSw; (try dsimp only at hSw); go_simp; all_goals with_reducible rfl)
                try simp only [Act.put, List.setIfInBounds_toArray, List.set_cons_zero, List.set_cons_succ]
                simp only [List.getElem_toArray, List.getElem_cons_succ, List.getElem_cons_zero, Act.put, List.setIfInBounds_toArray, List.set_cons_zero, List.set_cons_succ]
                refine wpAnyH_ready (rs := [12]) (by kernel_rfl) (by simp) ?_
                refine AllReadyH.cons rfl (fun K hK => ?_) (AllReadyH.nil)
                · skip
                  have hq9 := Lib.hid r4.out.box
                  have hb9 := Lib.hid hq9.out.b
                  go_simp
                  refine hK.out _ _ (hS4.out _ hb9.out) (fun hH5 => ?_)
                  replace hN9 := Lib.hid (hN9.out.below (below_alloc (Below.refl _ _) (Obj.cells #[.int .i64 0, .bool false] 70)))
                  generalize Y4.alloc (Obj.cells #[.int .i64 0, .bool false] 70) = Y5 at *
                  have r5 := hq9
                  clear hK K hq9 hb9 r4
                  skip
                  try simp only [List.getElem_toArray, List.getElem_cons_succ, List.getElem_cons_zero, Act.put, List.setIfInBounds_toArray, List.set_cons_zero, List.set_cons_succ]
                  refine wpAnyH_take (i := 13) (v := ?_) rfl (by kernel_rfl) (by kernel_rfl) (by kernel_rfl) (fun _ _ _ h => h) (Or.inl ⟨by rfl, ?_⟩) (by assumption) ?_
                  rotate_left 1
                  · (intro w hSw; (try dsimp only at hSw); go_simp; all_goals with_reducible rfl)
                  try simp only [Act.put, List.setIfInBounds_toArray, List.set_cons_zero, List.set_cons_succ]
                  have hfin := Lib.hid (r5.out.s _ rfl)
                  have hbf := Lib.hid r5.out.b
                  have zf0 := hfin.out.2.1.frozen 0
                  have zf1 := hfin.out.2.1.frozen 1
                  have zc0 := hfin.out.2.1.cell (i := 0) (by omega)
                  have zc1 := hfin.out.2.1.cell (i := 1) (by omega)
                  simp only [if_true, if_false, Nat.succ_ne_self] at zc0 zc1
                  have hbZ := Lib.hid (a9_set (u := .int .i64 (AT : Int)) (v := .bool AM) hbf.out hfin.out.1)
                  refine wpAnyH_ready (rs := [14]) (by kernel_rfl) (by simp) ?_
                  refine AllReadyH.cons rfl (fun K hK => ?_) ?_
                  rotate_left 1
                  · exact AllReadyH.nil
                  go_simp
                  refine hK.out _ _ (hS4.out _ hbZ.out) (fun hH6 => ?_)
                  clear hK K
                  try simp only [Act.put, List.setIfInBounds_toArray, List.set_cons_zero, List.set_cons_succ, List.getElem_toArray, List.getElem_cons_succ, List.getElem_cons_zero]
                  refine wpAnyH_take (i := 15) (v := ?_) rfl (by kernel_rfl) (by kernel_rfl) (by kernel_rfl) (fun _ _ _ h => h) (Or.inl ⟨by rfl, ?_⟩) (by assumption) ?_
                  rotate_left 1
                  · (intro w hSw; (try dsimp only at hSw); go_simp; all_goals with_reducible rfl)
                  try simp only [Act.put, List.setIfInBounds_toArray, List.set_cons_zero, List.set_cons_succ]
                  refine wpAnyH_done (by kernel_rfl) ?_ _
                  try simp only [Act.put, List.setIfInBounds_toArray, List.set_cons_zero, List.set_cons_succ, List.getElem_toArray, List.getElem_cons_succ, List.getElem_cons_zero]
                  have hend := Lib.hid (a9_end (u := .int .i64 (AT : Int)) (v := .bool AM) hYd hbf.out hfin.out.1)
                  have hsg := Lib.hid (hfin.out.2.1.set AT AM)
                  clear zf0 zf1 zc0 zc1 hbf hbZ hfin hH6
                  go_wp2
                  go_meet
                  exact ⟨_, rfl, rfl, rfl, hsg, hend⟩
              · skip
                have hq9 := Lib.hid r3.out.box
                have hb9 := Lib.hid hq9.out.b
                go_simp
                refine hK.out _ _ (hS4.out _ hb9.out) (fun hH4 => ?_)
                replace hN9 := Lib.hid (hN9.out.below (below_alloc (Below.refl _ _) (Obj.cells #[.int .i64 0, .bool false] 70)))
                generalize Y3.alloc (Obj.cells #[.int .i64 0, .bool false] 70) = Y4 at *
                have r4 := hq9
                clear hK K hq9 hb9 r3
                skip
                try simp only [List.getElem_toArray, List.getElem_cons_succ, List.getElem_cons_zero, Act.put, List.setIfInBounds_toArray, List.set_cons_zero, List.set_cons_succ]
                refine wpAnyH_ready (rs := [7]) (by kernel_rfl) (by simp) ?_
                refine AllReadyH.cons rfl (fun K hK => ?_) (AllReadyH.nil)
                · skip
                  have hC9 := Lib.hid (hC.out x9 c9 _ r4.out.b hN9.out)
                  go_simp
                  with_reducible refine (hC9.out).mono ?_
                  rintro e Y5 ⟨he, hb8⟩
                  subst he
                  have hq9 := Lib.hid (r4.out.call hb8)
                  have hb9 := Lib.hid hq9.out.b
                  refine hK.out _ _ (hS4.out _ hb9.out) (fun hH5 => ?_)
                  clear hb8 hC9
                  have r5 := hq9
                  clear hK K hq9 hb9 r4
                  try simp only [List.getElem_toArray, List.getElem_cons_succ, List.getElem_cons_zero, Act.put, List.setIfInBounds_toArray, List.set_cons_zero, List.set_cons_succ]
                  refine wpAnyH_take (i := 8) (v := ?_) rfl (by kernel_rfl) (by kernel_rfl) (by kernel_rfl) (fun _ _ _ h => h) (Or.inl ⟨by rfl, ?_⟩) (by assumption) ?_
                  rotate_left 1
                  · (intro w hSw; (try dsimp only at hSw); go_simp; all_goals with_reducible rfl)
                  try simp only [Act.put, List.setIfInBounds_toArray, List.set_cons_zero, List.set_cons_succ]
                  refine wpAnyH_take (i := 9) (v := ?_) rfl (by kernel_rfl) (by kernel_rfl) (by kernel_rfl) (fun _ _ _ h => h) (Or.inl ⟨by rfl, ?_⟩) (by assumption) ?_
                  rotate_left 1
                  · (intro w hSw; (try dsimp only at hSw); go_simp; all_goals with_reducible rfl)
                  try simp only [Act.put, List.setIfInBounds_toArray, List.set_cons_zero, List.set_cons_succ]
                  refine wpAnyH_take (i := 10) (v := ?_) rfl (by kernel_rfl) (by kernel_rfl) (by kernel_rfl) (fun _ _ _ h => h) (Or.inl ⟨by rfl, ?_⟩) (by assumption) ?_
                  rotate_left 1
                  · (intro w hSw; (try dsimp only at hSw); go_simp; all_goals with_reducible rfl)
                  try simp only [Act.put, List.setIfInBounds_toArray, List.set_cons_zero, List.set_cons_succ]
                  refine wpAnyH_take (i := 11) (v := ?_) rfl (by kernel_rfl) (by kernel_rfl) (by kernel_rfl) (fun _ _ _ h => h) (Or.inl ⟨by rfl, ?_⟩) (by assumption) ?_
                  rotate_left 1
                  · (intro w hSw; (try dsimp only at hSw); go_simp; all_goals with_reducible rfl)
                  try simp only [Act.put, List.setIfInBounds_toArray, List.set_cons_zero, List.set_cons_succ]
                  simp only [List.getElem_toArray, List.getElem_cons_succ, List.getElem_cons_zero, Act.put, List.setIfInBounds_toArray, List.set_cons_zero, List.set_cons_succ]
                  refine wpAnyH_take (i := 13) (v := ?_) rfl (by kernel_rfl) (by kernel_rfl) (by kernel_rfl) (fun _ _ _ h => h) (Or.inl ⟨by rfl, ?_⟩) (by assumption) ?_
                  rotate_left 1
                  · (intro w hSw; (try dsimp only at hSw); go_simp; all_goals with_reducible rfl)
                  try simp only [Act.put, List.setIfInBounds_toArray, List.set_cons_zero, List.set_cons_succ]
                  have hfin := Lib.hid (r5.out.s _ rfl)
                  have hbf := Lib.hid r5.out.b
                  have zf0 := hfin.out.2.1.frozen 0
                  have zf1 := hfin.out.2.1.frozen 1
                  have zc0 := hfin.out.2.1.cell (i := 0) (by omega)
                  have zc1 := hfin.out.2.1.cell (i := 1) (by omega)
                  simp only [if_true, if_false, Nat.succ_ne_self] at zc0 zc1
                  have hbZ := Lib.hid (a9_set (u := .int .i64 (AT : Int)) (v := .bool AM) hbf.out hfin.out.1)
                  refine wpAnyH_ready (rs := [14]) (by kernel_rfl) (by simp) ?_
                  refine AllReadyH.cons rfl (fun K hK => ?_) ?_
                  rotate_left 1
                  · exact AllReadyH.nil
                  go_simp
                  refine hK.out _ _ (hS4.out _ hbZ.out) (fun hH6 => ?_)
                  clear hK K
                  try simp only [Act.put, List.setIfInBounds_toArray, List.set_cons_zero, List.set_cons_succ, List.getElem_toArray, List.getElem_cons_succ, List.getElem_cons_zero]
                  refine wpAnyH_take (i := 15) (v := ?_) rfl (by kernel_rfl) (by kernel_rfl) (by kernel_rfl) (fun _ _ _ h => h) (Or.inl ⟨by rfl, ?_⟩) (by assumption) ?_
                  rotate_left 1
                  · (intro w hSw; (try dsimp only at hSw); go_simp; all_goals with_reducible rfl)
                  try simp only [Act.put, List.setIfInBounds_toArray, List.set_cons_zero, List.set_cons_succ]
                  refine wpAnyH_done (by kernel_rfl) ?_ _
                  try simp only [Act.put, List.setIfInBounds_toArray, List.set_cons_zero, List.set_cons_succ, List.getElem_toArray, List.getElem_cons_succ, List.getElem_cons_zero]
                  have hend := Lib.hid (a9_end (u := .int .i64 (AT : Int)) (v := .bool AM) hYd hbf.out hfin.out.1)
                  have hsg := Lib.hid (hfin.out.2.1.set AT AM)
                  clear zf0 zf1 zc0 zc1 hbf hbZ hfin hH6
                  go_wp2
                  go_meet
                  exact ⟨_, rfl, rfl, rfl, hsg, hend⟩
            · skip
              have hq9 := Lib.hid r2.out.box
              have hb9 := Lib.hid hq9.out.b
              go_simp
              refine hK.out _ _ (hS4.out _ hb9.out) (fun hH3 => ?_)
              generalize Y2.alloc (Obj.cells #[.int .i64 0, .bool false] 70) = Y3 at *
              have r3 := hq9
              clear hK K hq9 hb9 r2
              try simp only [List.getElem_toArray, List.getElem_cons_succ, List.getElem_cons_zero, Act.put, List.setIfInBounds_toArray, List.set_cons_zero, List.set_cons_succ]
              refine wpAnyH_ready (rs := [6]) (by kernel_rfl) (by simp) ?_
              refine AllReadyH.cons rfl (fun K hK => ?_) (AllReadyH.nil)
              · skip
                obtain ⟨v2, Y4, hr, hq9, hb9⟩ := r3.out.app hk.out (hA2.out _ r3.out.b) hz2.out (by have := hn.out; simp; omega)
                replace hq9 := Lib.hid hq9
                replace hb9 := Lib.hid hb9
                obtain ⟨x9, c9, hv9, hN9, _⟩ := ns_of_ownsZ (v := v2) (l := l1 ++ l2) (n := n + k) (by rw [List.length_append, hn.out, hk.out]) (by have h := hq9.out.o _ _ rfl; rw [List.nil_append, List.length_append, hn.out, hk.out] at h; exact h)
                subst hv9
                first | refine step_app rfl (.tmp 84) (.tmp 85) 22 rfl rfl rfl hr ?_ | refine wp_app (.tmp 84) (.tmp 85) 22 rfl rfl rfl hr ?_
                refine hK.out _ _ (hS4.out _ hb9.out) (fun hH4 => ?_)
                replace hN9 := Lib.hid hN9
                clear hr
                have r4 := hq9
                clear hK K hq9 hb9 r3
                try simp only [List.getElem_toArray, List.getElem_cons_succ, List.getElem_cons_zero, Act.put, List.setIfInBounds_toArray, List.set_cons_zero, List.set_cons_succ]
                refine wpAnyH_ready (rs := [7]) (by kernel_rfl) (by simp) ?_
                refine AllReadyH.cons rfl (fun K hK => ?_) (AllReadyH.nil)
                · skip
                  have hC9 := Lib.hid (hC.out x9 c9 _ r4.out.b hN9.out)
                  go_simp
                  with_reducible refine (hC9.out).mono ?_
                  rintro e Y5 ⟨he, hb8⟩
                  subst he
                  have hq9 := Lib.hid (r4.out.call hb8)
                  have hb9 := Lib.hid hq9.out.b
                  refine hK.out _ _ (hS4.out _ hb9.out) (fun hH5 => ?_)
                  clear hb8 hC9
                  have r5 := hq9
                  clear hK K hq9 hb9 r4
                  try simp only [List.getElem_toArray, List.getElem_cons_succ, List.getElem_cons_zero, Act.put, List.setIfInBounds_toArray, List.set_cons_zero, List.set_cons_succ]
                  refine wpAnyH_take (i := 8) (v := ?_) rfl (by kernel_rfl) (by kernel_rfl) (by kernel_rfl) (fun _ _ _ h => h) (Or.inl ⟨by rfl, ?_⟩) (by assumption) ?_
                  rotate_left 1
                  · (intro w hSw; (try dsimp only at hSw); go_simp; all_goals with_reducible rfl)
                  try simp only [Act.put, List.setIfInBounds_toArray, List.set_cons_zero, List.set_cons_succ]
                  refine wpAnyH_take (i := 9) (v := ?_) rfl (by kernel_rfl) (by kernel_rfl) (by kernel_rfl) (fun _ _ _ h => h) (Or.inl ⟨by rfl, ?_⟩) (by assumption) ?_
                  rotate_left 1
                  · (intro w hSw; (try dsimp only at hSw); go_simp; all_goals with_reducible rfl)
                  try simp only [Act.put, List.setIfInBounds_toArray, List.set_cons_zero, List.set_cons_succ]
                  refine wpAnyH_take (i := 10) (v := ?_) rfl (by kernel_rfl) (by kernel_rfl) (by kernel_rfl) (fun _ _ _ h => h) (Or.inl ⟨by rfl, ?_⟩) (by assumption) ?_
                  rotate_left 1
                  · (intro w hSw; (try dsimp only at hSw); go_simp; all_goals with_reducible rfl)
                  try simp only [Act.put, List.setIfInBounds_toArray, List.set_cons_zero, List.set_cons_succ]
                  refine wpAnyH_take (i := 11) (v := ?_) rfl (by kernel_rfl) (by kernel_rfl) (by kernel_rfl) (fun _ _ _ h => h) (Or.inl ⟨by rfl, ?_⟩) (by assumption) ?_
                  rotate_left 1
                  · (intro w hSw; (try dsimp only at hSw); go_simp; all_goals with_reducible rfl)
                  try simp only [Act.put, List.setIfInBounds_toArray, List.set_cons_zero, List.set_cons_succ]
                  simp only [List.getElem_toArray, List.getElem_cons_succ, List.getElem_cons_zero, Act.put, List.setIfInBounds_toArray, List.set_cons_zero, List.set_cons_succ]
                  refine wpAnyH_take (i := 13) (v := ?_) rfl (by kernel_rfl) (by kernel_rfl) (by kernel_rfl) (fun _ _ _ h => h) (Or.inl ⟨by rfl, ?_⟩) (by assumption) ?_
                  rotate_left 1
                  · (intro w hSw; (try dsimp only at hSw); go_simp; all_goals with_reducible rfl)
                  try simp only [Act.put, List.setIfInBounds_toArray, List.set_cons_zero, List.set_cons_succ]
                  have hfin := Lib.hid (r5.out.s _ rfl)
                  have hbf := Lib.hid r5.out.b
                  have zf0 := hfin.out.2.1.frozen 0
                  have zf1 := hfin.out.2.1.frozen 1
                  have zc0 := hfin.out.2.1.cell (i := 0) (by omega)
                  have zc1 := hfin.out.2.1.cell (i := 1) (by omega)
                  simp only [if_true, if_false, Nat.succ_ne_self] at zc0 zc1
                  have hbZ := Lib.hid (a9_set (u := .int .i64 (AT : Int)) (v := .bool AM) hbf.out hfin.out.1)
                  refine wpAnyH_ready (rs := [14]) (by kernel_rfl) (by simp) ?_
                  refine AllReadyH.cons rfl (fun K hK => ?_) ?_
                  rotate_left 1
                  · exact AllReadyH.nil
                  go_simp
                  refine hK.out _ _ (hS4.out _ hbZ.out) (fun hH6 => ?_)
                  clear hK K
                  try simp only [Act.put, List.setIfInBounds_toArray, List.set_cons_zero, List.set_cons_succ, List.getElem_toArray, List.getElem_cons_succ, List.getElem_cons_zero]
                  refine wpAnyH_take (i := 15) (v := ?_) rfl (by kernel_rfl) (by kernel_rfl) (by kernel_rfl) (fun _ _ _ h => h) (Or.inl ⟨by rfl, ?_⟩) (by assumption) ?_
                  rotate_left 1
                  · (intro w hSw; (try dsimp only at hSw); go_simp; all_goals with_reducible rfl)
                  try simp only [Act.put, List.setIfInBounds_toArray, List.set_cons_zero, List.set_cons_succ]
                  refine wpAnyH_done (by kernel_rfl) ?_ _
                  try simp only [Act.put, List.setIfInBounds_toArray, List.set_cons_zero, List.set_cons_succ, List.getElem_toArray, List.getElem_cons_succ, List.getElem_cons_zero]
                  have hend := Lib.hid (a9_end (u := .int .i64 (AT : Int)) (v := .bool AM) hYd hbf.out hfin.out.1)
                  have hsg := Lib.hid (hfin.out.2.1.set AT AM)
                  clear zf0 zf1 zc0 zc1 hbf hbZ hfin hH6
                  go_wp2
                  go_meet
                  exact ⟨_, rfl, rfl, rfl, hsg, hend⟩
          · skip
            have hq9 := Lib.hid r1.out.box
            have hb9 := Lib.hid hq9.out.b
            go_simp
            refine hK.out _ _ (hS4.out _ hb9.out) (fun hH2 => ?_)
            generalize Y1.alloc (Obj.cells #[.int .i64 0, .bool false] 70) = Y2 at *
            have r2 := hq9
            clear hK K hq9 hb9 r1
            try simp only [List.getElem_toArray, List.getElem_cons_succ, List.getElem_cons_zero, Act.put, List.setIfInBounds_toArray, List.set_cons_zero, List.set_cons_succ]
            refine wpAnyH_ready (rs := [4]) (by kernel_rfl) (by simp) ?_
            refine AllReadyH.cons rfl (fun K hK => ?_) (AllReadyH.nil)
            · skip
              obtain ⟨v1, Y3, hr, hq9, hb9⟩ := r2.out.app hn.out (hA1.out _ r2.out.b) hz1.out (by simp; omega)
              replace hq9 := Lib.hid hq9
              replace hb9 := Lib.hid hb9
              first | refine step_app rfl (.tmp 82) (.tmp 83) 22 rfl rfl rfl hr ?_ | refine wp_app (.tmp 82) (.tmp 83) 22 rfl rfl rfl hr ?_
              refine hK.out _ _ (hS4.out _ hb9.out) (fun hH3 => ?_)
              clear hr
              have r3 := hq9
              clear hK K hq9 hb9 r2
              try simp only [List.getElem_toArray, List.getElem_cons_succ, List.getElem_cons_zero, Act.put, List.setIfInBounds_toArray, List.set_cons_zero, List.set_cons_succ]
              refine wpAnyH_ready (rs := [6]) (by kernel_rfl) (by simp) ?_
              refine AllReadyH.cons rfl (fun K hK => ?_) (AllReadyH.nil)
              · skip
                obtain ⟨v2, Y4, hr, hq9, hb9⟩ := r3.out.app hk.out (hA2.out _ r3.out.b) hz2.out (by have := hn.out; simp; omega)
                replace hq9 := Lib.hid hq9
                replace hb9 := Lib.hid hb9
                obtain ⟨x9, c9, hv9, hN9, _⟩ := ns_of_ownsZ (v := v2) (l := l1 ++ l2) (n := n + k) (by rw [List.length_append, hn.out, hk.out]) (by have h := hq9.out.o _ _ rfl; rw [List.nil_append, List.length_append, hn.out, hk.out] at h; exact h)
                subst hv9
                first | refine step_app rfl (.tmp 84) (.tmp 85) 22 rfl rfl rfl hr ?_ | refine wp_app (.tmp 84) (.tmp 85) 22 rfl rfl rfl hr ?_
                refine hK.out _ _ (hS4.out _ hb9.out) (fun hH4 => ?_)
                replace hN9 := Lib.hid hN9
                clear hr
                have r4 := hq9
                clear hK K hq9 hb9 r3
                try simp only [List.getElem_toArray, List.getElem_cons_succ, List.getElem_cons_zero, Act.put, List.setIfInBounds_toArray, List.set_cons_zero, List.set_cons_succ]
                refine wpAnyH_ready (rs := [7]) (by kernel_rfl) (by simp) ?_
                refine AllReadyH.cons rfl (fun K hK => ?_) (AllReadyH.nil)
                · skip
                  have hC9 := Lib.hid (hC.out x9 c9 _ r4.out.b hN9.out)
                  go_simp
                  with_reducible refine (hC9.out).mono ?_
                  rintro e Y5 ⟨he, hb8⟩
                  subst he
                  have hq9 := Lib.hid (r4.out.call hb8)
                  have hb9 := Lib.hid hq9.out.b
                  refine hK.out _ _ (hS4.out _ hb9.out) (fun hH5 => ?_)
                  clear hb8 hC9
                  have r5 := hq9
                  clear hK K hq9 hb9 r4
                  try simp only [List.getElem_toArray, List.getElem_cons_succ, List.getElem_cons_zero, Act.put, List.setIfInBounds_toArray, List.set_cons_zero, List.set_cons_succ]
                  refine wpAnyH_take (i := 8) (v := ?_) rfl (by kernel_rfl) (by kernel_rfl) (by kernel_rfl) (fun _ _ _ h => h) (Or.inl ⟨by rfl, ?_⟩) (by assumption) ?_
                  rotate_left 1
                  · (intro w hSw; (try dsimp only at hSw); go_simp; all_goals with_reducible rfl)
                  try simp only [Act.put, List.setIfInBounds_toArray, List.set_cons_zero, List.set_cons_succ]
                  refine wpAnyH_take (i := 9) (v := ?_) rfl (by kernel_rfl) (by kernel_rfl) (by kernel_rfl) (fun _ _ _ h => h) (Or.inl ⟨by rfl, ?_⟩) (by assumption) ?_
                  rotate_left 1
                  · (intro w hSw; (try dsimp only at hSw); go_simp; all_goals with_reducible rfl)
                  try simp only [Act.put, List.setIfInBounds_toArray, List.set_cons_zero, List.set_cons_succ]
                  refine wpAnyH_take (i := 10) (v := ?_) rfl (by kernel_rfl) (by kernel_rfl) (by kernel_rfl) (fun _ _ _ h => h) (Or.inl ⟨by rfl, ?_⟩) (by assumption) ?_
                  rotate_left 1
                  · (intro w hSw; (try dsimp only at hSw); go_simp; all_goals with_reducible rfl)
                  try simp only [Act.put, List.setIfInBounds_toArray, List.set_cons_zero, List.set_cons_succ]
                  refine wpAnyH_take (i := 11) (v := ?_) rfl (by kernel_rfl) (by kernel_rfl) (by kernel_rfl) (fun _ _ _ h => h) (Or.inl ⟨by rfl, ?_⟩) (by assumption) ?_
                  rotate_left 1
                  · (intro w hSw; (try dsimp only at hSw); go_simp; all_goals with_reducible rfl)
                  try simp only [Act.put, List.setIfInBounds_toArray, List.set_cons_zero, List.set_cons_succ]
                  simp only [List.getElem_toArray, List.getElem_cons_succ, List.getElem_cons_zero, Act.put, List.setIfInBounds_toArray, List.set_cons_zero, List.set_cons_succ]
                  refine wpAnyH_take (i := 13) (v := ?_) rfl (by kernel_rfl) (by kernel_rfl) (by kernel_rfl) (fun _ _ _ h => h) (Or.inl ⟨by rfl, ?_⟩) (by assumption) ?_
                  rotate_left 1
                  · (intro w hSw; (try dsimp only at hSw); go_simp; all_goals with_reducible rfl)
                  try simp only [Act.put, List.setIfInBounds_toArray, List.set_cons_zero, List.set_cons_succ]
                  have hfin := Lib.hid (r5.out.s _ rfl)
                  have hbf := Lib.hid r5.out.b
                  have zf0 := hfin.out.2.1.frozen 0
                  have zf1 := hfin.out.2.1.frozen 1
                  have zc0 := hfin.out.2.1.cell (i := 0) (by omega)
                  have zc1 := hfin.out.2.1.cell (i := 1) (by omega)
                  simp only [if_true, if_false, Nat.succ_ne_self] at zc0 zc1
                  have hbZ := Lib.hid (a9_set (u := .int .i64 (AT : Int)) (v := .bool AM) hbf.out hfin.out.1)
                  refine wpAnyH_ready (rs := [14]) (by kernel_rfl) (by simp) ?_
                  refine AllReadyH.cons rfl (fun K hK => ?_) ?_
                  rotate_left 1
                  · exact AllReadyH.nil
                  go_simp
                  refine hK.out _ _ (hS4.out _ hbZ.out) (fun hH6 => ?_)
                  clear hK K
                  try simp only [Act.put, List.setIfInBounds_toArray, List.set_cons_zero, List.set_cons_succ, List.getElem_toArray, List.getElem_cons_succ, List.getElem_cons_zero]
                  refine wpAnyH_take (i := 15) (v := ?_) rfl (by kernel_rfl) (by kernel_rfl) (by kernel_rfl) (fun _ _ _ h => h) (Or.inl ⟨by rfl, ?_⟩) (by assumption) ?_
                  rotate_left 1
                  · (intro w hSw; (try dsimp only at hSw); go_simp; all_goals with_reducible rfl)
                  try simp only [Act.put, List.setIfInBounds_toArray, List.set_cons_zero, List.set_cons_succ]
                  refine wpAnyH_done (by kernel_rfl) ?_ _
                  try simp only [Act.put, List.setIfInBounds_toArray, List.set_cons_zero, List.set_cons_succ, List.getElem_toArray, List.getElem_cons_succ, List.getElem_cons_zero]
                  have hend := Lib.hid (a9_end (u := .int .i64 (AT : Int)) (v := .bool AM) hYd hbf.out hfin.out.1)
                  have hsg := Lib.hid (hfin.out.2.1.set AT AM)
                  clear zf0 zf1 zc0 zc1 hbf hbZ hfin hH6
                  go_wp2
                  go_meet
                  exact ⟨_, rfl, rfl, rfl, hsg, hend⟩
        · skip
          have hq9 := Lib.hid r0.out.box
          have hb9 := Lib.hid hq9.out.b
          go_simp
          refine hK.out _ _ (hS4.out _ hb9.out) (fun hH1 => ?_)
          generalize Y0.alloc (Obj.cells #[.int .i64 0, .bool false] 70) = Y1 at *
          have r1 := hq9
          clear hK K hq9 hb9 r0
          try simp only [List.getElem_toArray, List.getElem_cons_succ, List.getElem_cons_zero, Act.put, List.setIfInBounds_toArray, List.set_cons_zero, List.set_cons_succ]
          refine wpAnyH_ready (rs := [2]) (by kernel_rfl) (by simp) ?_
          refine AllReadyH.cons rfl (fun K hK => ?_) (AllReadyH.nil)
          · skip
            have hq9 := Lib.hid r1.out.lit
            have hb9 := Lib.hid hq9.out.b
            go_simp
            refine hK.out _ _ (hS4.out _ hb9.out) (fun hH2 => ?_)
            generalize Y1.alloc (Obj.cells #[] 3) = Y2 at *
            generalize hv9 : (Value.slice (some ⟨_, 0, none⟩) 0 0) = vA at *
            clear hv9
            have r2 := hq9
            clear hK K hq9 hb9 r1
            try simp only [List.getElem_toArray, List.getElem_cons_succ, List.getElem_cons_zero, Act.put, List.setIfInBounds_toArray, List.set_cons_zero, List.set_cons_succ]
            refine wpAnyH_ready (rs := [4]) (by kernel_rfl) (by simp) ?_
            refine AllReadyH.cons rfl (fun K hK => ?_) (AllReadyH.nil)
            · skip
              obtain ⟨v1, Y3, hr, hq9, hb9⟩ := r2.out.app hn.out (hA1.out _ r2.out.b) hz1.out (by simp; omega)
              replace hq9 := Lib.hid hq9
              replace hb9 := Lib.hid hb9
              first | refine step_app rfl (.tmp 82) (.tmp 83) 22 rfl rfl rfl hr ?_ | refine wp_app (.tmp 82) (.tmp 83) 22 rfl rfl rfl hr ?_
              refine hK.out _ _ (hS4.out _ hb9.out) (fun hH3 => ?_)
              clear hr
              have r3 := hq9
              clear hK K hq9 hb9 r2
              try simp only [List.getElem_toArray, List.getElem_cons_succ, List.getElem_cons_zero, Act.put, List.setIfInBounds_toArray, List.set_cons_zero, List.set_cons_succ]
              refine wpAnyH_ready (rs := [6]) (by kernel_rfl) (by simp) ?_
              refine AllReadyH.cons rfl (fun K hK => ?_) (AllReadyH.nil)
              · skip
                obtain ⟨v2, Y4, hr, hq9, hb9⟩ := r3.out.app hk.out (hA2.out _ r3.out.b) hz2.out (by have := hn.out; simp; omega)
                replace hq9 := Lib.hid hq9
                replace hb9 := Lib.hid hb9
                obtain ⟨x9, c9, hv9, hN9, _⟩ := ns_of_ownsZ (v := v2) (l := l1 ++ l2) (n := n + k) (by rw [List.length_append, hn.out, hk.out]) (by have h := hq9.out.o _ _ rfl; rw [List.nil_append, List.length_append, hn.out, hk.out] at h; exact h)
                subst hv9
                first | refine step_app rfl (.tmp 84) (.tmp 85) 22 rfl rfl rfl hr ?_ | refine wp_app (.tmp 84) (.tmp 85) 22 rfl rfl rfl hr ?_
                refine hK.out _ _ (hS4.out _ hb9.out) (fun hH4 => ?_)
                replace hN9 := Lib.hid hN9
                clear hr
                have r4 := hq9
                clear hK K hq9 hb9 r3
                try simp only [List.getElem_toArray, List.getElem_cons_succ, List.getElem_cons_zero, Act.put, List.setIfInBounds_toArray, List.set_cons_zero, List.set_cons_succ]
                refine wpAnyH_ready (rs := [7]) (by kernel_rfl) (by simp) ?_
                refine AllReadyH.cons rfl (fun K hK => ?_) (AllReadyH.nil)
                · skip
                  have hC9 := Lib.hid (hC.out x9 c9 _ r4.out.b hN9.out)
                  go_simp
                  with_reducible refine (hC9.out).mono ?_
                  rintro e Y5 ⟨he, hb8⟩
                  subst he
                  have hq9 := Lib.hid (r4.out.call hb8)
                  have hb9 := Lib.hid hq9.out.b
                  refine hK.out _ _ (hS4.out _ hb9.out) (fun hH5 => ?_)
                  clear hb8 hC9
                  have r5 := hq9
                  clear hK K hq9 hb9 r4
                  try simp only [List.getElem_toArray, List.getElem_cons_succ, List.getElem_cons_zero, Act.put, List.setIfInBounds_toArray, List.set_cons_zero, List.set_cons_succ]
                  refine wpAnyH_take (i := 8) (v := ?_) rfl (by kernel_rfl) (by kernel_rfl) (by kernel_rfl) (fun _ _ _ h => h) (Or.inl ⟨by rfl, ?_⟩) (by assumption) ?_
                  rotate_left 1
                  · (intro w hSw; (try dsimp only at hSw); go_simp; all_goals with_reducible rfl)
                  try simp only [Act.put, List.setIfInBounds_toArray, List.set_cons_zero, List.set_cons_succ]
                  refine wpAnyH_take (i := 9) (v := ?_) rfl (by kernel_rfl) (by kernel_rfl) (by kernel_rfl) (fun _ _ _ h => h) (Or.inl ⟨by rfl, ?_⟩) (by assumption) ?_
                  rotate_left 1
                  · (intro w hSw; (try dsimp only at hSw); go_simp; all_goals with_reducible rfl)
                  try simp only [Act.put, List.setIfInBounds_toArray, List.set_cons_zero, List.set_cons_succ]
                  refine wpAnyH_take (i := 10) (v := ?_) rfl (by kernel_rfl) (by kernel_rfl) (by kernel_rfl) (fun _ _ _ h => h) (Or.inl ⟨by rfl, ?_⟩) (by assumption) ?_
                  rotate_left 1
                  · (intro w hSw; (try dsimp only at hSw); go_simp; all_goals with_reducible rfl)
                  try simp only [Act.put, List.setIfInBounds_toArray, List.set_cons_zero, List.set_cons_succ]
                  refine wpAnyH_take (i := 11) (v := ?_) rfl (by kernel_rfl) (by kernel_rfl) (by kernel_rfl) (fun _ _ _ h => h) (Or.inl ⟨by rfl, ?_⟩) (by assumption) ?_
                  rotate_left 1
                  · (intro w hSw; (try dsimp only at hSw); go_simp; all_goals with_reducible rfl)
                  try simp only [Act.put, List.setIfInBounds_toArray, List.set_cons_zero, List.set_cons_succ]
                  simp only [List.getElem_toArray, List.getElem_cons_succ, List.getElem_cons_zero, Act.put, List.setIfInBounds_toArray, List.set_cons_zero, List.set_cons_succ]
                  refine wpAnyH_take (i := 13) (v := ?_) rfl (by kernel_rfl) (by kernel_rfl) (by kernel_rfl) (fun _ _ _ h => h) (Or.inl ⟨by rfl, ?_⟩) (by assumption) ?_
                  rotate_left 1
                  · (intro w hSw; (try dsimp only at hSw); go_simp; all_goals with_reducible rfl)
                  try simp only [Act.put, List.setIfInBounds_toArray, List.set_cons_zero, List.set_cons_succ]
                  have hfin := Lib.hid (r5.out.s _ rfl)
                  have hbf := Lib.hid r5.out.b
                  have zf0 := hfin.out.2.1.frozen 0
                  have zf1 := hfin.out.2.1.frozen 1
                  have zc0 := hfin.out.2.1.cell (i := 0) (by omega)
                  have zc1 := hfin.out.2.1.cell (i := 1) (by omega)
                  simp only [if_true, if_false, Nat.succ_ne_self] at zc0 zc1
                  have hbZ := Lib.hid (a9_set (u := .int .i64 (AT : Int)) (v := .bool AM) hbf.out hfin.out.1)
                  refine wpAnyH_ready (rs := [14]) (by kernel_rfl) (by simp) ?_
                  refine AllReadyH.cons rfl (fun K hK => ?_) ?_
                  rotate_left 1
                  · exact AllReadyH.nil
                  go_simp
                  refine hK.out _ _ (hS4.out _ hbZ.out) (fun hH6 => ?_)
                  clear hK K
                  try simp only [Act.put, List.setIfInBounds_toArray, List.set_cons_zero, List.set_cons_succ, List.getElem_toArray, List.getElem_cons_succ, List.getElem_cons_zero]
                  refine wpAnyH_take (i := 15) (v := ?_) rfl (by kernel_rfl) (by kernel_rfl) (by kernel_rfl) (fun _ _ _ h => h) (Or.inl ⟨by rfl, ?_⟩) (by assumption) ?_
                  rotate_left 1
                  · (intro w hSw; (try dsimp only at hSw); go_simp; all_goals with_reducible rfl)
                  try simp only [Act.put, List.setIfInBounds_toArray, List.set_cons_zero, List.set_cons_succ]
                  refine wpAnyH_done (by kernel_rfl) ?_ _
                  try simp only [Act.put, List.setIfInBounds_toArray, List.set_cons_zero, List.set_cons_succ, List.getElem_toArray, List.getElem_cons_succ, List.getElem_cons_zero]
                  have hend := Lib.hid (a9_end (u := .int .i64 (AT : Int)) (v := .bool AM) hYd hbf.out hfin.out.1)
                  have hsg := Lib.hid (hfin.out.2.1.set AT AM)
                  clear zf0 zf1 zc0 zc1 hbf hbZ hfin hH6
                  go_wp2
                  go_meet
                  exact ⟨_, rfl, rfl, rfl, hsg, hend⟩
      case rest =>
        obtain ⟨gb, rfl, rfl, rfl, g3, hc⟩ := hcut
        replace hc := hc.out
        have hbc := hb4.trans (hc.mono hb4.size)
        replace g1 := g1.below hc
        replace g2 := g2.below hc
        clear hc hb4 hY HFab HF
        generalize wc = V at *
        go_upto_if 92 with fail
        go_cut [20, 21] from 93 to 127 (fun _s20 _s21 wx => Hid (Below V.heap.size V wx))
        case first =>
          by_cases h2 : f2 = 0
          · obtain ⟨ht2, rfl, rfl, rfl, rfl⟩ := hall.out h2
            subst h2
            have HCm := Lib.hid (pComposeP_ok t1 t2 ht1 ht2)
            have u0 := g1.cell (i := 0) (by omega)
            have u1 := g1.cell (i := 1) (by omega)
            have v0 := g2.cell (i := 0) (by omega)
            have v1 := g2.cell (i := 1) (by omega)
            have x0 := g3.out.cell (i := 0) (by omega)
            have x1 := g3.out.cell (i := 1) (by omega)
            simp only [if_true, if_false, Nat.succ_ne_self] at u0 u1 v0 v1 x0 x1
            clear g1 g2 g3 hall hmem hmin hlen hV1 HG HW HS hgn hst1 hr1
            go_wp2_with fail
            refine (HCm.out _).mono ?_
            rintro e w5 ⟨rfl, hw5⟩
            subst hw5
            cases m1 <;> cases m2
            all_goals (
              go_wp2_with fail
              go_meet
              exact Lib.hid (Below.refl _ _))
          · have hn2 : (f2 == 0) = false := by simpa using h2
            clear g1 g2 g3 hall hmem hmin hlen hV1 HG HW HS hgn hst1 hr1
            go_wp2_with fail
            go_meet
            exact Lib.hid (Below.refl _ _)
        case rest =>
          replace hcut := hcut.out
          have hbv := hbc.trans (hcut.mono hbc.size)
          replace g1 := g1.below hcut
          clear hbc hcut g2 g3 hall hr1 hst1
          generalize wc = U at *
          have hU := hX.trans (hbv.mono hX.size)
          have z0 := kk0.out _ hbv
          have z1 := kk1.out _ hbv
          have z2 := kk2.out _ hbv
          go_wp2_with fail
          refine (HG.out q1 hV1.out _ hU).mono ?_
          rintro e w6 ⟨v, rfl, hO⟩
          obtain ⟨oa, oc, rfl, _⟩ := hO.out.at
          have hb6 := hO.out.b
          rw [hlen.out]
          replace hbv := hbv.trans (hb6.mono hbv.size)
          replace g1 := g1.below hb6
          clear hO hb6 HG hU z0 z1 z2
          have hU := hX.trans (hbv.mono hX.size)
          by_cases hqp : q1 = p
          · have hqb : (q1 == p) = true := by simpa using hqp
            have z0 := kk0.out _ hbv
            have z1 := kk1.out _ hbv
            have z2 := kk2.out _ hbv
            have u0 := g1.cell (i := 0) (by omega)
            have u1 := g1.cell (i := 1) (by omega)
            simp only [if_true, if_false, Nat.succ_ne_self] at u0 u1
            have hm9 := hmem.out hqp
            have hl9 := hmin.out hqp
            replace hm9 := Lib.hid hm9
            clear hmem hmin hlen hqp
            go_wp2_with fail
            refine (HW.out t1 ht1 m1 _ hU).mono ?_
            rintro e w7 ⟨wb, wn, wcp, E, rfl, hR, hb7⟩
            obtain ⟨_, rfl, rfl, _⟩ | ⟨hno, _⟩ := hR.out
            · have hi9 : ¬ (n : Int) < ((Pl.wlk L p (t1, m1)).length : Int) := by omega
              have hend := hbv.trans (hb7.mono hbv.size)
              clear hR hm9 hl9 HW g1 u0 u1 z0 z1 z2 kk0 kk1 kk2 hb7 hbv HS hgn hV1
              generalize (Pl.wlk L p (t1, m1)).length = wl at *
              go_wp2_with fail
              go_meet
              exact Lib.hid hend
            · exact absurd hm9.out hno
          · have hqb : (q1 == p) = false := by simpa using hqp
            clear hmem hmin hlen hqp HW HS hgn hV1
            go_wp2_with fail
            go_meet
            exact Lib.hid hbv
    · have hn1 : (f1 == 0) = false := by simpa using h0
      clear HG HF HW HS hgn hf1
      go_wp2_with fail
      go_meet
      exact Lib.hid (Below.refl _ _)
  case rest =>
    clear hf1 g1
    have kk0 := Lib.hid (fun (W : World) (hb' : Below X.heap.size X W) => kept1 b0 hb')
    have kk1 := Lib.hid (fun (W : World) (hb' : Below X.heap.size X W) => kept1 b1 hb')
    have kk2 := Lib.hid (fun (W : World) (hb' : Below X.heap.size X W) => kept1 b2 hb')
    clear b0 b1 b2 HG
    replace hcut := hcut.out
    generalize wc = U at *
    have HWi := Lib.hid (fun (t : Nat) (mm : Bool) (R : Bool) (hR : decide ((t, mm) ∈ Pl.signs L p) = R) (W : World) (hb : Below X.heap.size X W) => within_any ga gn gc (Pl.signs L p) hgn (by have := hgn.out; have := Pl.signs_len L p; omega) t mm R (Lib.hid hR) W (Lib.hid (hGs.out.below hb)))
    have hg16 : gn ≤ 16 := by have := hgn.out; have := Pl.signs_len L p; omega
    have hspec := Lib.hid (fun (g : Nat × Bool) (h : g ∈ Pl.signs L p) => Pl.wlk_spec hV.out.m6 hV.out.ok ⟨hV.out.p0, hV.out.pm⟩ h)
    go_wp2_with fail
    go_loopw [26] (fun iv wr => ∃ (j : Nat), j ≤ 16 ∧ iv = .int .i64 (j : Int) ∧ Hid (Below X.heap.size X wr)) (fun iv _ => 16 - (RowKit.intOf iv).toNat)
    case atStart => exact ⟨0, by omega, rfl, Lib.hid hcut⟩
    case round =>
      clear hcut U
      obtain ⟨j, hj, rfl, hb'⟩ := hrel
      have hb := hb'.out
      clear hb'
      by_cases hlt : j < 16
      · have i3 : (j : Int) < 16 := by omega
        have i4 : (0 : Int) ≤ (j : Int) := by omega
        go_upto_region 25 with fail
        have hd : (j : Int) / 2 = ((j / 2 : Nat) : Int) := by omega
        rw [hd]
        have ht : j / 2 < 8 := by omega
        generalize j / 2 = t at *
        generalize ((j : Int) % 2 == 1) = mm at *
        clear hd
        have gs : SgA (wr.alloc (Obj.cells #[.int .i64 (t : Int), .bool mm] 70)) wr.heap.size t mm := sga_new wr t mm
        have hba : Below wr.heap.size wr (wr.alloc (Obj.cells #[.int .i64 (t : Int), .bool mm] 70)) := below_alloc (Below.refl _ _) _
        replace hb := hb.trans (hba.mono hb.size)
        clear hba
        generalize (wr.alloc (Obj.cells #[.int .i64 (t : Int), .bool mm] 70)) = W1 at *
        generalize wr.heap.size = sb at *
        obtain ⟨R, hR⟩ : ∃ R, decide ((t, mm) ∈ Pl.signs L p) = R := ⟨_, rfl⟩
        have HI := Lib.hid (HWi.out t mm R hR _ hb)
        replace hR := Lib.hid hR
        have u0 := gs.cell (i := 0) (by omega)
        have u1 := gs.cell (i := 1) (by omega)
        simp only [if_true, if_false, Nat.succ_ne_self] at u0 u1
        go_wp2_with fail
        refine HI.out.mono ?_
        rintro e w2 ⟨rfl, hb2⟩
        replace hb := hb.trans (hb2.mono hb.size)
        replace u0 := kept1 u0 hb2
        replace u1 := kept1 u1 hb2
        clear hb2 HI gs
        have HW2 := Lib.hid (HW.out t ht mm _ (hX.trans (hb.mono hX.size)))
        have z0 := kk0.out _ hb
        have z1 := kk1.out _ hb
        have z2 := kk2.out _ hb
        go_wp2_with fail
        refine HW2.out.mono ?_
        rintro e w3 ⟨wb, wn, wcp, E, rfl, hWR, hb2⟩
        replace hb := hb.trans (hb2.mono hb.size)
        replace u0 := kept1 u0 hb2
        replace u1 := kept1 u1 hb2
        clear hb2 HW2 z0 z1 z2
        rcases hWR.out with ⟨hm9, hE, hwn, hN⟩ | ⟨hno, hE, _, _, _⟩
        · have hsp := hspec.out _ hm9
          have hw9 := Pl.fol_some (s := (s : Int)) hV.out.c hsp.st hsp.len hsp.run
          have hwi : ∀ g ∈ Pl.wlk L p (t, mm), -9223372036854775808 ≤ g ∧ g ≤ 9223372036854775807 := fun g hg => by
            have h := Pl.mem_stps.1 (hsp.st g hg)
            have := hV.out.q
            omega
          have HF2 := HF.out p wb wn wcp _ hwn.symm (Lib.hid hwi) _ (hX.trans (hb.mono hX.size)) hN
          rw [hw9] at HF2
          simp only at HF2
          replace HF2 := Lib.hid HF2
          obtain rfl : true = R := by rw [← hR.out]; exact (decide_eq_true hm9).symm
          subst hE
          clear hsp hw9 hwi hm9 hwn hN hWR hR
          have z0 := kk0.out _ hb
          have z1 := kk1.out _ hb
          have z2 := kk2.out _ hb
          have hne := run_neq_sg (t : Int) (t : Int) mm mm
          rw [show decide ((t : Int) = (t : Int) ∧ mm = mm) = true from decide_eq_true ⟨rfl, rfl⟩] at hne
          have hgd := sg_guard
          go_wp2_with fail
          refine HF2.out.mono ?_
          rintro e w4 ⟨rfl, hb2⟩
          replace hb := hb.trans (hb2.mono hb.size)
          replace u0 := kept1 u0 hb2
          replace u1 := kept1 u1 hb2
          clear hb2 HF2 z0 z1 z2
          go_upto_region 31 with fail
          have g4 : SgA (w4.alloc (Obj.cells #[.int .i64 (t : Int), .bool mm] 70)) w4.heap.size t mm := sga_new w4 t mm
          have hba : Below w4.heap.size w4 (w4.alloc (Obj.cells #[.int .i64 (t : Int), .bool mm] 70)) := below_alloc (Below.refl _ _) _
          replace hb := hb.trans (hba.mono hb.size)
          replace u0 := kept1 u0 hba
          replace u1 := kept1 u1 hba
          clear hba
          generalize (w4.alloc (Obj.cells #[.int .i64 (t : Int), .bool mm] 70)) = W5 at *
          generalize w4.heap.size = s4 at *
          have v0 := g4.cell (i := 0) (by omega)
          have v1 := g4.cell (i := 1) (by omega)
          simp only [if_true, if_false, Nat.succ_ne_self] at v0 v1
          clear g4 HWi HW HF hspec HS hgn hGs hl1 hl2
          replace hb := Lib.hid hb
          go_wp2
          first | exact ⟨⟨j + 1, by omega, by simp, hb⟩, by simp [RowKit.intOf]; omega⟩ | exact ⟨⟨j + 1, by omega, by simp⟩, by simp [RowKit.intOf]; omega⟩
        · obtain rfl : false = R := by rw [← hR.out]; exact (decide_eq_false hno).symm
          subst hE
          clear hno hWR hR HWi HW HF hspec HS hgn hGs hl1 hl2
          replace hb := Lib.hid hb
          go_wp2
          first | exact ⟨⟨j + 1, by omega, by simp, hb⟩, by simp [RowKit.intOf]; omega⟩ | exact ⟨⟨j + 1, by omega, by simp⟩, by simp [RowKit.intOf]; omega⟩
      · have i3 : ¬ (j : Int) < 16 := by omega
        obtain rfl : j = 16 := by omega
        clear HW HF hspec hl1 hl2 kk0 kk1 kk2 i3 hj hlt
        go_wp2
        go_loopw [34] (fun iv wr => ∃ (i : Nat), i ≤ gn ∧ iv = .int .i64 (i : Int) ∧ Hid (Below X.heap.size X wr)) (fun iv _ => gn - (RowKit.intOf iv).toNat)
        case atStart => exact ⟨0, by omega, rfl, Lib.hid hb⟩
        case round =>
          clear hb
          obtain ⟨i, hi, rfl, hb⟩ := hrel
          by_cases hlt : i < gn
          · have i3 : (i : Int) < (gn : Int) := by omega
            have i4 : (0 : Int) ≤ (i : Int) := by omega
            go_wp2
            go_loopw [35] (fun iv wr => ∃ (j : Nat), j ≤ gn ∧ iv = .int .i64 (j : Int) ∧ Hid (Below X.heap.size X wr)) (fun iv _ => gn - (RowKit.intOf iv).toNat)
            case atStart => exact ⟨0, by omega, rfl, hb⟩
            case round =>
              clear hb
              obtain ⟨j, hj, rfl, hb'⟩ := hrel
              have hb := hb'.out
              clear hb'
              by_cases hlt2 : j < gn
              · have j3 : (j : Int) < (gn : Int) := by omega
                have j4 : (0 : Int) ≤ (j : Int) := by omega
                obtain ⟨gx, rfl, c0, c1⟩ := hGs.out i (by have := hgn.out; omega)
                obtain ⟨gx2, e2, d0, d1⟩ := hGs.out j (by have := hgn.out; omega)
                obtain rfl := Option.some.inj e2
                obtain ⟨ti, mi, hzi⟩ : ∃ ti mi, (Pl.signs L p).getD i (0, false) = (ti, mi) := ⟨_, _, rfl⟩
                obtain ⟨tj, mj, hzj⟩ : ∃ tj mj, (Pl.signs L p).getD j (0, false) = (tj, mj) := ⟨_, _, rfl⟩
                have gi : (ti, mi) ∈ Pl.signs L p := by rw [← hzi, List.getD, List.getElem?_eq_getElem (by have := hgn.out; omega)]; exact List.getElem_mem _
                have gj : (tj, mj) ∈ Pl.signs L p := by rw [← hzj, List.getD, List.getElem?_eq_getElem (by have := hgn.out; omega)]; exact List.getElem_mem _
                have hG := Pl.signs_grp hV.out.m6 hV.out.ok ⟨hV.out.p0, hV.out.pm⟩
                have hti : ti < 8 := hG.lt _ gi
                have htj : tj < 8 := hG.lt _ gj
                have hmul := hG.mul _ gi _ gj
                simp only at hmul
                rw [hzi] at c0 c1
                rw [hzj] at d0 d1
                simp only at c0 c1 d0 d1
                replace c0 := kept1 c0 hb
                replace c1 := kept1 c1 hb
                replace d0 := kept1 d0 hb
                replace d1 := kept1 d1 hb
                have HCm := Lib.hid (pComposeP_ok ti tj hti htj)
                have HI := Lib.hid (fun (W : World) (hb : Below X.heap.size X W) => HWi.out (Pl.cmp ti tj) (!(mi == mj)) true (decide_eq_true hmul) W hb)
                clear hzi hzj gi gj hG hti htj hmul
                generalize Pl.cmp ti tj = tc at *
                go_upto_region 39 with fail
                have S0 : wr.drew.cell? (gx.add (i * 2)) = some (.int .i64 (ti : Int)) ∧ wr.drew.cell? ⟨(gx.add (i * 2)).block, (gx.add (i * 2)).off + 1, none⟩ = some (.bool mi) ∧ wr.drew.cell? (gx.add (j * 2)) = some (.int .i64 (tj : Int)) ∧ wr.drew.cell? ⟨(gx.add (j * 2)).block, (gx.add (j * 2)).off + 1, none⟩ = some (.bool mj) := ⟨c0, c1, d0, d1⟩
                refine wp_region_held_drew (S := fun w' => w'.cell? (gx.add (i * 2)) = some (.int .i64 (ti : Int)) ∧ w'.cell? ⟨(gx.add (i * 2)).block, (gx.add (i * 2)).off + 1, none⟩ = some (.bool mi) ∧ w'.cell? (gx.add (j * 2)) = some (.int .i64 (tj : Int)) ∧ w'.cell? ⟨(gx.add (j * 2)).block, (gx.add (j * 2)).off + 1, none⟩ = some (.bool mj)) (by kernel_rfl) S0 (fun hHeld => ?_)
                refine wpAnyH_take (i := 0) (v := ?_) rfl (by kernel_rfl) (by kernel_rfl) (by kernel_rfl) (fun _ _ _ h => h) (Or.inl ⟨by rfl, ?_⟩) (by assumption) ?_
                rotate_left 1
                · (intro w hSw; (try dsimp only at hSw); go_simp; all_goals with_reducible rfl)
                try simp only [Act.put, List.setIfInBounds_toArray, List.set_cons_zero, List.set_cons_succ]
                refine wpAnyH_take (i := 1) (v := ?_) rfl (by kernel_rfl) (by kernel_rfl) (by kernel_rfl) (fun _ _ _ h => h) (Or.inl ⟨by rfl, ?_⟩) (by assumption) ?_
                rotate_left 1
                · (intro w hSw; (try dsimp only at hSw); go_simp; all_goals with_reducible rfl)
                try simp only [Act.put, List.setIfInBounds_toArray, List.set_cons_zero, List.set_cons_succ]
                refine wpAnyH_take (i := 2) (v := ?_) rfl (by kernel_rfl) (by kernel_rfl) (by kernel_rfl) (fun _ _ _ h => h) (Or.inl ⟨by rfl, ?_⟩) (by assumption) ?_
                rotate_left 1
                · (intro w hSw; (try dsimp only at hSw); go_simp; all_goals with_reducible rfl)
                try simp only [Act.put, List.setIfInBounds_toArray, List.set_cons_zero, List.set_cons_succ]
                refine wpAnyH_take (i := 3) (v := ?_) rfl (by kernel_rfl) (by kernel_rfl) (by kernel_rfl) (fun _ _ _ h => h) (Or.inl ⟨by rfl, ?_⟩) (by assumption) ?_
                rotate_left 1
                · (intro w hSw; (try dsimp only at hSw); go_simp; all_goals with_reducible rfl)
                try simp only [Act.put, List.setIfInBounds_toArray, List.set_cons_zero, List.set_cons_succ]
                refine wpAnyH_take (i := 4) (v := ?_) rfl (by kernel_rfl) (by kernel_rfl) (by kernel_rfl) (fun _ _ _ h => h) (Or.inl ⟨by rfl, ?_⟩) (by assumption) ?_
                rotate_left 1
                · (intro w hSw; (try dsimp only at hSw); go_simp; all_goals with_reducible rfl)
                try simp only [Act.put, List.setIfInBounds_toArray, List.set_cons_zero, List.set_cons_succ]
                refine wpAnyH_take (i := 5) (v := ?_) rfl (by kernel_rfl) (by kernel_rfl) (by kernel_rfl) (fun _ _ _ h => h) (Or.inl ⟨by rfl, ?_⟩) (by assumption) ?_
                rotate_left 1
                · (intro w hSw; (try dsimp only at hSw); go_simp; all_goals with_reducible rfl)
                try simp only [Act.put, List.setIfInBounds_toArray, List.set_cons_zero, List.set_cons_succ]
                refine wpAnyH_take (i := 6) (v := ?_) rfl (by kernel_rfl) (by kernel_rfl) (by kernel_rfl) (fun _ _ _ h => h) (Or.inl ⟨by rfl, ?_⟩) (by assumption) ?_
                rotate_left 1
                · (intro w hSw; (try dsimp only at hSw); go_simp; all_goals with_reducible rfl)
                try simp only [Act.put, List.setIfInBounds_toArray, List.set_cons_zero, List.set_cons_succ]
                refine wpAnyH_take (i := 7) (v := ?_) rfl (by kernel_rfl) (by kernel_rfl) (by kernel_rfl) (fun _ _ _ h => h) (Or.inl ⟨by rfl, ?_⟩) (by assumption) ?_
                rotate_left 1
                · (intro w hSw; (try dsimp only at hSw); go_simp; all_goals with_reducible rfl)
                try simp only [Act.put, List.setIfInBounds_toArray, List.set_cons_zero, List.set_cons_succ]
                refine wpAnyH_take (i := 8) (v := ?_) rfl (by kernel_rfl) (by kernel_rfl) (by kernel_rfl) (fun _ _ _ h => h) (Or.inl ⟨by rfl, ?_⟩) (by assumption) ?_
                rotate_left 1
                · (intro w hSw; (try dsimp only at hSw); go_simp; all_goals with_reducible rfl)
                try simp only [Act.put, List.setIfInBounds_toArray, List.set_cons_zero, List.set_cons_succ]
                refine wpAnyH_take (i := 9) (v := ?_) rfl (by kernel_rfl) (by kernel_rfl) (by kernel_rfl) (fun _ _ _ h => h) (Or.inl ⟨by rfl, ?_⟩) (by assumption) ?_
                rotate_left 1
                · (intro w hSw; (try dsimp only at hSw); go_simp; all_goals with_reducible rfl)
                try simp only [Act.put, List.setIfInBounds_toArray, List.set_cons_zero, List.set_cons_succ]
                try simp only [List.getElem_toArray, List.getElem_cons_succ, List.getElem_cons_zero, Act.put, List.setIfInBounds_toArray, List.set_cons_zero, List.set_cons_succ]
                refine wpAnyH_ready (rs := [10]) (by kernel_rfl) (by simp) ?_
                refine AllReadyH.cons rfl (fun K hK => ?_) ?_
                rotate_left 1
                · exact AllReadyH.nil
                go_simp
                with_reducible refine (HCm.out _).mono ?_
                rintro e w2 ⟨he, hw2⟩
                subst he hw2
                refine hK.out _ _ hHeld (fun hHeld2 => ?_)
                clear hK K
                try simp only [List.getElem_toArray, List.getElem_cons_succ, List.getElem_cons_zero, Act.put, List.setIfInBounds_toArray, List.set_cons_zero, List.set_cons_succ]
                refine wpAnyH_take (i := 11) (v := ?_) rfl (by kernel_rfl) (by kernel_rfl) (by kernel_rfl) (fun _ _ _ h => h) (Or.inl ⟨by rfl, ?_⟩) (by assumption) ?_
                rotate_left 1
                · (intro w hSw; (try dsimp only at hSw); go_simp; all_goals with_reducible rfl)
                try simp only [Act.put, List.setIfInBounds_toArray, List.set_cons_zero, List.set_cons_succ]
                refine wpAnyH_take (i := 12) (v := ?_) rfl (by kernel_rfl) (by kernel_rfl) (by kernel_rfl) (fun _ _ _ h => h) (Or.inl ⟨by rfl, ?_⟩) (by assumption) ?_
                rotate_left 1
                · (intro w hSw; (try dsimp only at hSw); go_simp; all_goals with_reducible rfl)
                try simp only [Act.put, List.setIfInBounds_toArray, List.set_cons_zero, List.set_cons_succ]
                refine wpAnyH_take (i := 13) (v := ?_) rfl (by kernel_rfl) (by kernel_rfl) (by kernel_rfl) (fun _ _ _ h => h) (Or.inl ⟨by rfl, ?_⟩) (by assumption) ?_
                rotate_left 1
                · (intro w hSw; (try dsimp only at hSw); go_simp; all_goals with_reducible rfl)
                try simp only [Act.put, List.setIfInBounds_toArray, List.set_cons_zero, List.set_cons_succ]
                refine wpAnyH_take (i := 14) (v := ?_) rfl (by kernel_rfl) (by kernel_rfl) (by kernel_rfl) (fun _ _ _ h => h) (Or.inl ⟨by rfl, ?_⟩) (by assumption) ?_
                rotate_left 1
                · (intro w hSw; (try dsimp only at hSw); go_simp; all_goals with_reducible rfl)
                try simp only [Act.put, List.setIfInBounds_toArray, List.set_cons_zero, List.set_cons_succ]
                refine wpAnyH_take (i := 15) (v := ?_) rfl (by kernel_rfl) (by kernel_rfl) (by kernel_rfl) (fun _ _ _ h => h) (Or.inl ⟨by rfl, ?_⟩) (by assumption) ?_
                rotate_left 1
                · (intro w hSw; (try dsimp only at hSw); go_simp; all_goals with_reducible rfl)
                try simp only [Act.put, List.setIfInBounds_toArray, List.set_cons_zero, List.set_cons_succ]
                try simp only [List.getElem_toArray, List.getElem_cons_succ, List.getElem_cons_zero, Act.put, List.setIfInBounds_toArray, List.set_cons_zero, List.set_cons_succ]
                refine wpAnyH_done (by kernel_rfl) ?_ _
                try simp only [List.getElem_toArray, List.getElem_cons_succ, List.getElem_cons_zero, Act.put, List.setIfInBounds_toArray, List.set_cons_zero, List.set_cons_succ]
                replace hb := hb.drew
                clear S0 hHeld HCm c0 c1 d0 d1
                obtain ⟨c0, c1, d0, d1⟩ := hHeld2
                generalize wr.drew = W2 at *
                go_upto_region 40 with fail
                have S0 : W2.drew.cell? (gx.add (i * 2)) = some (.int .i64 (ti : Int)) ∧ W2.drew.cell? ⟨(gx.add (i * 2)).block, (gx.add (i * 2)).off + 1, none⟩ = some (.bool mi) ∧ W2.drew.cell? (gx.add (j * 2)) = some (.int .i64 (tj : Int)) ∧ W2.drew.cell? ⟨(gx.add (j * 2)).block, (gx.add (j * 2)).off + 1, none⟩ = some (.bool mj) := ⟨c0, c1, d0, d1⟩
                refine wp_region_held_drew (S := fun w' => w'.cell? (gx.add (i * 2)) = some (.int .i64 (ti : Int)) ∧ w'.cell? ⟨(gx.add (i * 2)).block, (gx.add (i * 2)).off + 1, none⟩ = some (.bool mi) ∧ w'.cell? (gx.add (j * 2)) = some (.int .i64 (tj : Int)) ∧ w'.cell? ⟨(gx.add (j * 2)).block, (gx.add (j * 2)).off + 1, none⟩ = some (.bool mj)) (by kernel_rfl) S0 (fun hHeld => ?_)
                refine wpAnyH_take (i := 0) (v := ?_) rfl (by kernel_rfl) (by kernel_rfl) (by kernel_rfl) (fun _ _ _ h => h) (Or.inl ⟨by rfl, ?_⟩) (by assumption) ?_
                rotate_left 1
                · (intro w hSw; (try dsimp only at hSw); go_simp; all_goals with_reducible rfl)
                try simp only [Act.put, List.setIfInBounds_toArray, List.set_cons_zero, List.set_cons_succ]
                refine wpAnyH_take (i := 1) (v := ?_) rfl (by kernel_rfl) (by kernel_rfl) (by kernel_rfl) (fun _ _ _ h => h) (Or.inl ⟨by rfl, ?_⟩) (by assumption) ?_
                rotate_left 1
                · (intro w hSw; (try dsimp only at hSw); go_simp; all_goals with_reducible rfl)
                try simp only [Act.put, List.setIfInBounds_toArray, List.set_cons_zero, List.set_cons_succ]
                refine wpAnyH_take (i := 2) (v := ?_) rfl (by kernel_rfl) (by kernel_rfl) (by kernel_rfl) (fun _ _ _ h => h) (Or.inl ⟨by rfl, ?_⟩) (by assumption) ?_
                rotate_left 1
                · (intro w hSw; (try dsimp only at hSw); go_simp; all_goals with_reducible rfl)
                try simp only [Act.put, List.setIfInBounds_toArray, List.set_cons_zero, List.set_cons_succ]
                try simp only [List.getElem_toArray, List.getElem_cons_succ, List.getElem_cons_zero, Act.put, List.setIfInBounds_toArray, List.set_cons_zero, List.set_cons_succ]
                refine wpAnyH_take (i := 3) (v := ?_) rfl (by kernel_rfl) (by kernel_rfl) (by kernel_rfl) (fun _ _ _ h => h) (Or.inl ⟨by kernel_rfl, ?_⟩) (by assumption) ?_
                rotate_left 1
                · (intro w hSw; (try dsimp only at hSw); go_simp; all_goals with_reducible rfl)
                try simp only [Act.put, List.getElem_toArray, List.getElem_cons_succ, List.getElem_cons_zero, List.setIfInBounds_toArray, List.set_cons_zero, List.set_cons_succ]
                refine wpAnyH_take (i := 4) (v := ?_) rfl (by kernel_rfl) (by kernel_rfl) (by kernel_rfl) (fun _ _ _ h => h) (Or.inl ⟨by kernel_rfl, ?_⟩) (by assumption) ?_
                rotate_left 1
                · (intro w hSw; (try dsimp only at hSw); go_simp; all_goals with_reducible rfl)
                try simp only [Act.put, List.getElem_toArray, List.getElem_cons_succ, List.getElem_cons_zero, List.setIfInBounds_toArray, List.set_cons_zero, List.set_cons_succ]
                refine wpAnyH_take (i := 5) (v := ?_) rfl (by kernel_rfl) (by kernel_rfl) (by kernel_rfl) (fun _ _ _ h => h) (Or.inl ⟨by kernel_rfl, ?_⟩) (by assumption) ?_
                rotate_left 1
                · (intro w hSw; (try dsimp only at hSw); go_simp; all_goals with_reducible rfl)
                try simp only [Act.put, List.getElem_toArray, List.getElem_cons_succ, List.getElem_cons_zero, List.setIfInBounds_toArray, List.set_cons_zero, List.set_cons_succ]
                refine wpAnyH_take (i := 6) (v := ?_) rfl (by kernel_rfl) (by kernel_rfl) (by kernel_rfl) (fun _ _ _ h => h) (Or.inl ⟨by kernel_rfl, ?_⟩) (by assumption) ?_
                rotate_left 1
                · (intro w hSw; (try dsimp only at hSw); go_simp; all_goals with_reducible rfl)
                try simp only [Act.put, List.getElem_toArray, List.getElem_cons_succ, List.getElem_cons_zero, List.setIfInBounds_toArray, List.set_cons_zero, List.set_cons_succ]
                refine wpAnyH_take (i := 7) (v := ?_) rfl (by kernel_rfl) (by kernel_rfl) (by kernel_rfl) (fun _ _ _ h => h) (Or.inl ⟨by kernel_rfl, ?_⟩) (by assumption) ?_
                rotate_left 1
                · (intro w hSw; (try dsimp only at hSw); go_simp; all_goals with_reducible rfl)
                try simp only [Act.put, List.getElem_toArray, List.getElem_cons_succ, List.getElem_cons_zero, List.setIfInBounds_toArray, List.set_cons_zero, List.set_cons_succ]
                refine wpAnyH_take (i := 8) (v := ?_) rfl (by kernel_rfl) (by kernel_rfl) (by kernel_rfl) (fun _ _ _ h => h) (Or.inl ⟨by kernel_rfl, ?_⟩) (by assumption) ?_
                rotate_left 1
                · (intro w hSw; (try dsimp only at hSw); go_simp; all_goals with_reducible rfl)
                try simp only [Act.put, List.getElem_toArray, List.getElem_cons_succ, List.getElem_cons_zero, List.setIfInBounds_toArray, List.set_cons_zero, List.set_cons_succ]
                refine wpAnyH_take (i := 9) (v := ?_) rfl (by kernel_rfl) (by kernel_rfl) (by kernel_rfl) (fun _ _ _ h => h) (Or.inl ⟨by kernel_rfl, ?_⟩) (by assumption) ?_
                rotate_left 1
                · (intro w hSw; (try dsimp only at hSw); go_simp; all_goals with_reducible rfl)
                try simp only [Act.put, List.getElem_toArray, List.getElem_cons_succ, List.getElem_cons_zero, List.setIfInBounds_toArray, List.set_cons_zero, List.set_cons_succ]
                refine wpAnyH_take (i := 10) (v := ?_) rfl (by kernel_rfl) (by kernel_rfl) (by kernel_rfl) (fun _ _ _ h => h) (Or.inl ⟨by kernel_rfl, ?_⟩) (by assumption) ?_
                rotate_left 1
                · (intro w hSw; (try dsimp only at hSw); go_simp; all_goals with_reducible rfl)
                try simp only [Act.put, List.getElem_toArray, List.getElem_cons_succ, List.getElem_cons_zero, List.setIfInBounds_toArray, List.set_cons_zero, List.set_cons_succ]
                refine wpAnyH_take (i := 11) (v := ?_) rfl (by kernel_rfl) (by kernel_rfl) (by kernel_rfl) (fun _ _ _ h => h) (Or.inl ⟨by kernel_rfl, ?_⟩) (by assumption) ?_
                rotate_left 1
                · (intro w hSw; (try dsimp only at hSw); go_simp; all_goals with_reducible rfl)
                try simp only [Act.put, List.getElem_toArray, List.getElem_cons_succ, List.getElem_cons_zero, List.setIfInBounds_toArray, List.set_cons_zero, List.set_cons_succ]
                refine wpAnyH_take (i := 12) (v := ?_) rfl (by kernel_rfl) (by kernel_rfl) (by kernel_rfl) (fun _ _ _ h => h) (Or.inl ⟨by kernel_rfl, ?_⟩) (by assumption) ?_
                rotate_left 1
                · (intro w hSw; (try dsimp only at hSw); go_simp; all_goals with_reducible rfl)
                try simp only [Act.put, List.getElem_toArray, List.getElem_cons_succ, List.getElem_cons_zero, List.setIfInBounds_toArray, List.set_cons_zero, List.set_cons_succ]
                refine wpAnyH_take (i := 13) (v := ?_) rfl (by kernel_rfl) (by kernel_rfl) (by kernel_rfl) (fun _ _ _ h => h) (Or.inl ⟨by kernel_rfl, ?_⟩) (by assumption) ?_
                rotate_left 1
                · (intro w hSw; (try dsimp only at hSw); go_simp; all_goals with_reducible rfl)
                try simp only [Act.put, List.getElem_toArray, List.getElem_cons_succ, List.getElem_cons_zero, List.setIfInBounds_toArray, List.set_cons_zero, List.set_cons_succ]
                refine wpAnyH_take (i := 14) (v := ?_) rfl (by kernel_rfl) (by kernel_rfl) (by kernel_rfl) (fun _ _ _ h => h) (Or.inl ⟨by kernel_rfl, ?_⟩) (by assumption) ?_
                rotate_left 1
                · (intro w hSw; (try dsimp only at hSw); go_simp; all_goals with_reducible rfl)
                try simp only [Act.put, List.getElem_toArray, List.getElem_cons_succ, List.getElem_cons_zero, List.setIfInBounds_toArray, List.set_cons_zero, List.set_cons_succ]
                refine wpAnyH_take (i := 15) (v := ?_) rfl (by kernel_rfl) (by kernel_rfl) (by kernel_rfl) (fun _ _ _ h => h) (Or.inl ⟨by kernel_rfl, ?_⟩) (by assumption) ?_
                rotate_left 1
                · (intro w hSw; (try dsimp only at hSw); go_simp; all_goals with_reducible rfl)
                try simp only [Act.put, List.getElem_toArray, List.getElem_cons_succ, List.getElem_cons_zero, List.setIfInBounds_toArray, List.set_cons_zero, List.set_cons_succ]
                refine wpAnyH_take (i := 16) (v := ?_) rfl (by kernel_rfl) (by kernel_rfl) (by kernel_rfl) (fun _ _ _ h => h) (Or.inl ⟨by kernel_rfl, ?_⟩) (by assumption) ?_
                rotate_left 1
                · (intro w hSw; (try dsimp only at hSw); go_simp; all_goals with_reducible rfl)
                try simp only [Act.put, List.getElem_toArray, List.getElem_cons_succ, List.getElem_cons_zero, List.setIfInBounds_toArray, List.set_cons_zero, List.set_cons_succ]
                try simp only [List.getElem_toArray, List.getElem_cons_succ, List.getElem_cons_zero, Act.put, List.setIfInBounds_toArray, List.set_cons_zero, List.set_cons_succ]
                replace hb := hb.drew
                have HI2 := Lib.hid (HI.out _ hb)
                refine wpAnyH_ready (rs := [17]) (by kernel_rfl) (by simp) ?_
                refine AllReadyH.cons rfl (fun K hK => ?_) ?_
                rotate_left 1
                · exact AllReadyH.nil
                go_simp
                with_reducible refine (HI2.out).mono ?_
                rintro e w3 ⟨he, hb3⟩
                subst he
                have S3 : w3.cell? (gx.add (i * 2)) = some (.int .i64 (ti : Int)) ∧ w3.cell? ⟨(gx.add (i * 2)).block, (gx.add (i * 2)).off + 1, none⟩ = some (.bool mi) ∧ w3.cell? (gx.add (j * 2)) = some (.int .i64 (tj : Int)) ∧ w3.cell? ⟨(gx.add (j * 2)).block, (gx.add (j * 2)).off + 1, none⟩ = some (.bool mj) := ⟨kept1 hHeld.1 hb3, kept1 hHeld.2.1 hb3, kept1 hHeld.2.2.1 hb3, kept1 hHeld.2.2.2 hb3⟩
                refine hK.out _ _ S3 (fun hHeld3 => ?_)
                clear hK K
                try simp only [List.getElem_toArray, List.getElem_cons_succ, List.getElem_cons_zero, Act.put, List.setIfInBounds_toArray, List.set_cons_zero, List.set_cons_succ]
                refine wpAnyH_take (i := 18) (v := ?_) rfl (by kernel_rfl) (by kernel_rfl) (by kernel_rfl) (fun _ _ _ h => h) (Or.inl ⟨by kernel_rfl, ?_⟩) (by assumption) ?_
                rotate_left 1
                · (intro w hSw; (try dsimp only at hSw); go_simp; all_goals with_reducible rfl)
                try simp only [Act.put, List.getElem_toArray, List.getElem_cons_succ, List.getElem_cons_zero, List.setIfInBounds_toArray, List.set_cons_zero, List.set_cons_succ]
                refine wpAnyH_take (i := 19) (v := ?_) rfl (by kernel_rfl) (by kernel_rfl) (by kernel_rfl) (fun _ _ _ h => h) (Or.inl ⟨by kernel_rfl, ?_⟩) (by assumption) ?_
                rotate_left 1
                · (intro w hSw; (try dsimp only at hSw); go_simp; all_goals with_reducible rfl)
                try simp only [Act.put, List.getElem_toArray, List.getElem_cons_succ, List.getElem_cons_zero, List.setIfInBounds_toArray, List.set_cons_zero, List.set_cons_succ]
                try simp only [List.getElem_toArray, List.getElem_cons_succ, List.getElem_cons_zero, Act.put, List.setIfInBounds_toArray, List.set_cons_zero, List.set_cons_succ]
                refine wpAnyH_done (by kernel_rfl) ?_ _
                replace hb := Lib.hid (hb.trans (hb3.mono hb.size))
                clear S0 S3 hHeld hHeld3 hb3 HI HI2 c0 c1 d0 d1
                go_wp2
                first | exact ⟨⟨j + 1, by omega, by simp, hb⟩, by simp [RowKit.intOf]; omega⟩ | exact ⟨⟨j + 1, by omega, by simp⟩, by simp [RowKit.intOf]; omega⟩
              · have j3 : ¬ (j : Int) < (gn : Int) := by omega
                replace hb := Lib.hid hb
                go_wp2
                first | exact ⟨⟨i + 1, by omega, by simp, hb⟩, by simp [RowKit.intOf]; omega⟩ | exact ⟨⟨i + 1, by omega, by simp⟩, by simp [RowKit.intOf]; omega⟩
          · have i3 : ¬ (i : Int) < (gn : Int) := by omega
            have hbX := hX.trans (hb.out.mono hX.size)
            have HS2 := Lib.hid (HS.out _ hbX)
            clear HS hb hX HWi hGs hgn
            go_wp2_with fail
            refine HS2.out.mono ?_
            rintro e w9 ⟨rfl, hb2⟩
            replace hbX := hbX.trans (hb2.mono hbX.size)
            go_wp2
            go_ret
            exact ⟨rfl, hbX⟩

theorem plateWalks_any (s m : Int) (a : Option Addr) (q cap : Nat) (L : List Pl.Wk) (hq : Hid (L.length = q)) (p : Int) (x : Option Addr) (n c : Nat) (l1 : List Int) (hn : Hid (l1.length = n)) (hz1 : Hid (x = none → c = 0)) (hi1 : Hid (∀ g ∈ l1, -9223372036854775808 ≤ g ∧ g ≤ 9223372036854775807)) (y : Option Addr) (k d : Nat) (l2 : List Int) (hk : Hid (l2.length = k)) (hz2 : Hid (y = none → d = 0)) (hi2 : Hid (∀ g ∈ l2, -9223372036854775808 ≤ g ∧ g ≤ 9223372036854775807)) (w : World) (hL : Hid (WksAt w a L)) (hl1 : Hid (NsAt w x l1)) (hl2 : Hid (NsAt w y l2)) (hT : Hid (Tab w.heap.size w)) :
    Calls Tryd.prog 8 #[.agg #[.int .i64 s, .int .i64 m, .slice a q cap], .int .i64 p, .slice x n c, .slice y k d] w (LawPost w) := by
  by_cases h20 : q ≤ 20
  · by_cases h40 : 40 < n
    · exact walks_long1 s m a q cap L hq p x n c l1 hn hz1 hi1 y k d l2 hk hz2 hi2 w hL hl1 hl2 hT h20 h40
    · by_cases h41 : 40 < k
      · exact walks_long2 s m a q cap L hq p x n c l1 hn hz1 hi1 y k d l2 hk hz2 hi2 w hL hl1 hl2 hT h20 h40 h41
      · by_cases hc : Pl.cpl s m L p = 0
        · have hv := (Pl.chk_ok (Pl.cpl_ok hc).1).1
          obtain ⟨s', rfl⟩ : ∃ s' : Nat, s = s' := ⟨s.toNat, by omega⟩
          exact walks_ok s' m a q cap L hq p x n c l1 hn hz1 hi1 y k d l2 hk hz2 hi2 w hL hl1 hl2 hT h20 h40 h41 (Lib.hid (Pl.vs_of hc))
        · exact walks_bad s m a q cap L hq p x n c l1 hn hz1 hi1 y k d l2 hk hz2 hi2 w hL hl1 hl2 hT h20 h40 h41 _ (Lib.hid rfl) hc
  · exact walks_wide s m a q cap L hq p x n c l1 hn hz1 hi1 y k d l2 hk hz2 hi2 w hL hl1 hl2 hT h20

/-- the law, its arguments in the frame's order -/
theorem plateWalks_true (w : World) (s m : Int) (a : Option Addr) (q cap : Nat) (L : List Pl.Wk) (hq : Hid (L.length = q)) (hL : Hid (WksAt w a L)) (p : Int) (x : Option Addr) (n c : Nat) (l1 : List Int) (hz1 : Hid (x = none → c = 0)) (hn : Hid (l1.length = n)) (hl1 : Hid (NsAt w x l1)) (hi1 : Hid (∀ g ∈ l1, -9223372036854775808 ≤ g ∧ g ≤ 9223372036854775807)) (y : Option Addr) (k d : Nat) (l2 : List Int) (hz2 : Hid (y = none → d = 0)) (hk : Hid (l2.length = k)) (hl2 : Hid (NsAt w y l2)) (hi2 : Hid (∀ g ∈ l2, -9223372036854775808 ≤ g ∧ g ≤ 9223372036854775807)) (hT : Hid (Tab w.heap.size w)) :
    Calls Tryd.prog 8 #[.agg #[.int .i64 s, .int .i64 m, .slice a q cap], .int .i64 p, .slice x n c, .slice y k d] w (LawPost w) :=
  plateWalks_any s m a q cap L hq p x n c l1 hn hz1 hi1 y k d l2 hk hz2 hi2 w hL hl1 hl2 hT
end Go.Proofs.YtidcedilfhmllaaDoor
