/- Contracts of the specification: Idle, Suspects, Reduce. -/
import Derived.Test.YtkcchangkhklcaaZMUqYr
import Derived.Test.YtkcchangkhklcaaZMQfRy
import Derived.Test.YtkcchangkhklcaaZMRoSx
set_option linter.unusedSimpArgs false
set_option linter.unusedVariables false
namespace Go.Proofs.Ytkcchangkhklcaa
open Go.RowKit

theorem ints_single (W : World) (j : Nat) : IntsAt (W.alloc (Obj.cells #[.int .i64 (j : Int)] 3)) (some ⟨W.heap.size, 0, none⟩) [(j : Int)] := ints_lit W [j]
/-- what is gathered in a loop -/
structure GA (w1 : World) (v : Value) (pre : List Nat) (W : World) : Prop where
  own : W.ownsRow w1.heap.size 3 1 v pre.length (pre.map fun i : Nat => Value.int .i64 (i : Int))
  b : Below w1.heap.size w1 W
theorem GA.below {w1 W W' : World} {v : Value} {pre : List Nat} (h : GA w1 v pre W) (hb : Below W.heap.size W W') : GA w1 v pre W' := ⟨owns_but (T := fun _ => False) h.own ((But.of_below hb).mono (fun _ _ h => h)) (fun _ _ h => h), h.b.trans (hb.mono h.b.size)⟩
theorem GA.start (w : World) : GA w (.slice none 0 0) [] w := ⟨World.ownsRow_nil _ _ _ _, Below.refl _ _⟩
theorem GA.push {w1 W W' : World} {v v' : Value} {pre : List Nat} {i : Nat} (o : Obj) (h : GA w1 v pre W) (hown : W'.ownsRow w1.heap.size 3 1 v' (pre.length + 1) (pre.map (fun i : Nat => Value.int .i64 (i : Int)) ++ [.int .i64 (i : Int)])) (hg : (W.alloc o).grownBy W' v.ownBlock) : GA w1 v' (pre ++ [i]) W' :=
  ⟨by rw [List.length_append, List.map_append]; exact hown, below_grown (h.b.alloc h.b.size o) (h.own.alloc o) hg⟩
/-- the system without some links, looked at by Tight -/
theorem kept_tight (n : Int) (L M : List Ch.Lk) (D : List Bool) (hM : M = Ch.kept L D) (hck : (Ch.check n L).1 = 0) (w : World) (v : Value) (B : Nat) (hown : w.ownsRow B 58 3 v M.length (lkCells M)) :
    ∃ p q c, v = .slice p q c ∧ Calls Try.prog 15 #[.agg #[.int .i64 n, .slice p q c]] w (RtPost w n.toNat M) := by
  obtain ⟨p, c, rfl, hK⟩ := lks_of_owns hown
  exact ⟨p, _, c, rfl, rtight_any n p M.length c M (Lib.hid rfl) (by rw [hM]; exact Ch.kept_check hck) w (Lib.hid hK)⟩

set_option linter.unusedSimpArgs false in
set_option maxRecDepth 100000 in
set_option maxHeartbeats 16000000 in
theorem ridle_any (n : Int) (a : Option Addr) (m cap : Nat) (L : List Ch.Lk) (hm : Hid (L.length = m)) (k : Nat) (h : Ch.EA n L k) (ho : Ch.opn n L [] k = 0) (w : World) (hL : Hid (LksAt w a L)) :
    Calls Try.prog 36 #[sysV n a m cap] w (RwlPost w (Ch.idleK n.toNat L k m)) := by
  obtain ⟨i0, hi, hz0, hz1, hz2⟩ := info_parts infoInt
  obtain ⟨hck, _, hcn⟩ := Ch.opn_ok ho
  obtain ⟨n1, n2, n3, hok⟩ := Ch.check_ok hck
  obtain ⟨σ, hσ⟩ := h.en.cons hck hcn
  have hm3 : m ≤ 300 := by have := hm.out; omega
  have HTi := Lib.hid fun (W : World) (h : SB w n a m cap L W) => rtight_any n a m cap L hm hck W (Lib.hid h.l)
  have HWo := Lib.hid fun (W : World) (j : Nat) (h : SB w n a m cap L (W.alloc (Obj.cells #[.int .i64 (j : Int)] 3))) => rwithout_any n a (some ⟨W.heap.size, 0, none⟩) m 1 cap 1 L [(j : Int)] hm (Lib.hid rfl) (by omega) (by omega) _ (Lib.hid h.l) (Lib.hid (ints_single W j))
  have HKt := Lib.hid fun (j : Nat) => kept_tight n L (Ch.kept L ((Ch.none' L.length).set j true)) _ rfl hck
  have hex := Lib.hid fun (j : Nat) => show ∃ σ, Ch.Sol (Ch.kept L ((Ch.none' L.length).set j true)) [] σ from ⟨σ, Ch.kept_sol hσ⟩
  have hcov := Lib.hid fun (j : Nat) (hj : j < L.length) => show (∀ u, u < n.toNat → ∀ v, v < n.toNat → Ch.fyT n.toNat L u v = Ch.fyT n.toNat (Ch.kept L ((Ch.none' L.length).set j true)) u v) ↔ Ch.spares n.toNat L (Ch.none' L.length) k j = true by
    obtain ⟨k2, hk2⟩ := Ch.ea_ex n (Ch.kept L ((Ch.none' L.length).set j true))
    rw [h.fy_cov ho (hk2 k2 (Nat.le_refl _))]
    exact (h.spares_all ho hj (Ch.none_get _ _) (Ch.cov_less fun _ _ _ => Ch.none_get _ _)).symm
  have hyes := Lib.hid (⟨σ, hσ⟩ : ∃ σ, Ch.Sol L [] σ)
  obtain ⟨N, rfl⟩ : ∃ N : Nat, n = (N : Int) := ⟨n.toNat, by omega⟩
  simp only [Int.toNat_natCast] at *
  unfold sysV at *
  clear h ho hck hcn hσ hok
  have hJ := Lib.hid (SB.mk (w := w) (n := (N : Int)) (a := a) (m := m) (cap := cap) (W := w.alloc (Obj.cells #[.int .i64 (N : Int), .slice a m cap] 24)) (by simp [go_sem]) (by simp [go_sem]) (hL.out.below (below_alloc (Below.refl _ _) _)) (below_alloc (Below.refl _ _) _))
  clear hL
  go_enter Try.func36, Try.ntmps36
  go_wp2_with fail
  refine (HTi.out _ hJ.out).mono ?_
  rintro e w2 ⟨hb, h⟩
  obtain ⟨_, ob, dc, R2, rfl, ht⟩ := h.resolve_left (fun h => h.1 hyes.out)
  have hJ2 := Lib.hid (hJ.out.below hb)
  have hU2 := Lib.hid ht
  clear hb h ht HTi hJ hyes
  have hGA := Lib.hid (GA.start w2)
  go_wp2
  go_loopw [6, 5] (fun ii vv wr => ∃ (j : Nat) (v : Value), j ≤ m ∧ ii = .int .i64 j ∧ v = vv ∧ Hid (GA w2 v (Ch.idleK N L k j) wr)) (fun ii _ _ => m - (RowKit.intOf ii).toNat)
  case atStart => exact ⟨0, _, Nat.zero_le _, rfl, rfl, hGA⟩
  case round =>
    clear hGA
    obtain ⟨j, v, hj, rfl, rfl, HG⟩ := hrel
    have hJr := Lib.hid (hJ2.out.below HG.out.b)
    have k0 := hJr.out.c0
    have k1 := hJr.out.c1
    by_cases hlt : j < m
    · have hi5 : (j : Int) < (m : Int) := by omega
      have hjL : j < L.length := by have := hm.out; omega
      have hbA : Below wr.heap.size wr (wr.alloc (Obj.cells #[.int .i64 (j : Int)] 3)) := (Below.refl _ _).alloc (Nat.le_refl _) _
      have hJA := Lib.hid (hJr.out.below hbA)
      have HW := HWo.out wr j hJA.out
      rw [show Ch.wo L [(j : Int)] m = Ch.kept L ((Ch.none' L.length).set j true) by rw [← hm.out]; exact Ch.wo_one hjL] at HW
      have hcv := hcov.out j hjL
      have hexj := Lib.hid (hex.out j)
      have HK := Lib.hid (HKt.out j)
      obtain ⟨M, hM⟩ : ∃ M, Ch.kept L ((Ch.none' L.length).set j true) = M := ⟨_, rfl⟩
      rw [hM] at HW hcv hexj HK
      have hht := Lib.hid fun (h : Ch.spares N L (Ch.none' L.length) k j = true) => Ch.idleK_hit h
      have hms := Lib.hid fun (h : Ch.spares N L (Ch.none' L.length) k j = false) => Ch.idleK_miss h
      have hlen := Ch.idleK_len N L k j
      obtain ⟨sp, hsp⟩ : ∃ sp, Ch.spares N L (Ch.none' L.length) k j = sp := ⟨_, rfl⟩
      rw [hsp] at hcv hht hms
      have HGA := Lib.hid (HG.out.below hbA)
      replace HW := Lib.hid HW
      replace hcv := Lib.hid hcv
      clear hM hsp hbA hJr HG
      go_wp2_with fail
      refine HW.out.mono ?_
      rintro e w3 ⟨xv, rfl, hox, hb⟩
      obtain ⟨px, qx, cx, rfl, HT⟩ := HK.out w3 xv _ hox
      have hJ3 := Lib.hid (hJA.out.below hb)
      have HG3 := Lib.hid (HGA.out.below hb)
      replace HT := Lib.hid HT
      clear hb hox HW HK hJA HGA k0 k1
      go_wp2_with fail
      refine HT.out.mono ?_
      rintro e w4 ⟨hb, h⟩
      obtain ⟨_, ob3, dc3, R3, rfl, ht⟩ := h.resolve_left (fun h => h.1 hexj.out)
      have hJ4 := Lib.hid (hJ3.out.below hb)
      have HG4 := Lib.hid (HG3.out.below hb)
      have HSt := Lib.hid (sameTable_two N ob ob3 dc dc3 R2 R3 (by omega) _ _ sp hcv w4 (Lib.hid (hU2.out.below HG4.out.b)) (Lib.hid ht))
      clear hb h ht HT hJ3 HG3 hexj hcv
      go_wp2_with fail
      refine HSt.out.mono ?_
      rintro e w5 ⟨rfl, hb⟩
      have HG5 := Lib.hid (HG4.out.below hb)
      clear hb HSt hJ4 HG4
      cases sp
      · have hms2 := Lib.hid (hms.out rfl)
        clear hht hms
        go_wp2
        go_roundw
        case rel => exact ⟨j + 1, _, by omega, by go_num, rfl, Lib.hid (by rw [hms2.out]; exact HG5.out)⟩
        case measure => show m - ((j : Int) + 1).toNat < m - (j : Int).toNat; omega
      · have hht2 := Lib.hid (hht.out rfl)
        have hown := HG5.out.own
        have hsz := HG5.out.b.size
        clear hht hms
        go_wp2_with (first
          | (at_builtin; refine wpList_append_own _ rfl (.tmp 32) (.tmp 34) 32 rfl w2.heap.size 3 i0 (.int .i64 0) 1 8 Try.underlying32 hi hz0 hz1 hz2 rfl (by decide) _ _ _ rfl (hown.alloc _) ⟨w5.heap.size, 0, none⟩ 1 1 [.int .i64 (j : Int)] rfl rfl ?c1 ?c2 ?c3 ?c4 ?c5 ?_)
          | fail)
        case c1 =>
          intro j u hj
          match j, hj with
          | 0, hj => simp at hj; subst hj; simp [Addr.add]
        case c2 => intro u hu; simp at hu; subst hu; rfl
        case c3 => unfold maxLen; omega
        case c4 => omega
        case c5 => simp; omega
        intro v' w6 hown' hgrow hnn
        have HG6 := Lib.hid (HG5.out.push _ hown' hgrow)
        clear hown hown' hgrow hnn HG5
        go_wp2
        go_roundw
        case rel => exact ⟨j + 1, _, by omega, by go_num, rfl, Lib.hid (by rw [hht2.out]; exact HG6.out)⟩
        case measure => show m - ((j : Int) + 1).toNat < m - (j : Int).toNat; omega
    · obtain rfl : j = m := by omega
      have hi5 : ¬ (j : Int) < (j : Int) := by omega
      have hB := hJr.out.b
      have how := owns_base (base' := w.heap.size) HG.out.own hJ2.out.b.size
      clear hJr HG
      go_wp2
      go_ret
      exact ⟨_, rfl, how, hB⟩
set_option linter.unusedSimpArgs false in
set_option maxRecDepth 100000 in
set_option maxHeartbeats 16000000 in
theorem rsuspects_any (n : Int) (a : Option Addr) (m cap : Nat) (L : List Ch.Lk) (hm : Hid (L.length = m)) (k : Nat) (h : Ch.EA n L k) (hck : (Ch.check n L).1 = 0) (hno : ¬ ∃ σ, Ch.Sol L [] σ) (w : World) (hL : Hid (LksAt w a L)) :
    Calls Try.prog 35 #[sysV n a m cap] w (RwlPost w (Ch.suK n.toNat L k m)) := by
  obtain ⟨i0, hi, hz0, hz1, hz2⟩ := info_parts infoInt
  obtain ⟨n1, n2, n3, hok⟩ := Ch.check_ok hck
  have hm3 : m ≤ 300 := by have := hm.out; omega
  have HTi := Lib.hid fun (W : World) (h : SB w n a m cap L W) => rtight_any n a m cap L hm hck W (Lib.hid h.l)
  have HWo := Lib.hid fun (W : World) (j : Nat) (h : SB w n a m cap L (W.alloc (Obj.cells #[.int .i64 (j : Int)] 3))) => rwithout_any n a (some ⟨W.heap.size, 0, none⟩) m 1 cap 1 L [(j : Int)] hm (Lib.hid rfl) (by omega) (by omega) _ (Lib.hid h.l) (Lib.hid (ints_single W j))
  have HKt := Lib.hid fun (j : Nat) => kept_tight n L (Ch.kept L ((Ch.none' L.length).set j true)) _ rfl hck
  have hcov := Lib.hid fun (j : Nat) => show (∃ σ, Ch.Sol (Ch.kept L ((Ch.none' L.length).set j true)) [] σ) ↔ Ch.cons n.toNat L ((Ch.none' L.length).set j true) k = true by
    rw [(h.e hck _).2]
    exact ⟨fun ⟨σ, hs⟩ => ⟨σ, Ch.kept_sol_iff.1 hs⟩, fun ⟨σ, hs⟩ => ⟨σ, Ch.kept_sol_iff.2 hs⟩⟩
  replace hno := Lib.hid hno
  obtain ⟨N, rfl⟩ : ∃ N : Nat, n = (N : Int) := ⟨n.toNat, by omega⟩
  simp only [Int.toNat_natCast] at *
  unfold sysV at *
  clear h hck hok
  have hJ := Lib.hid (SB.mk (w := w) (n := (N : Int)) (a := a) (m := m) (cap := cap) (W := w.alloc (Obj.cells #[.int .i64 (N : Int), .slice a m cap] 24)) (by simp [go_sem]) (by simp [go_sem]) (hL.out.below (below_alloc (Below.refl _ _) _)) (below_alloc (Below.refl _ _) _))
  clear hL
  go_enter Try.func35, Try.ntmps35
  go_wp2_with fail
  refine (HTi.out _ hJ.out).mono ?_
  rintro e w2 ⟨hb, h⟩
  obtain ⟨_, rfl⟩ := h.resolve_right (fun h => hno.out h.1)
  have hJ2 := Lib.hid (hJ.out.below hb)
  clear hb h HTi hJ hno
  have hGA := Lib.hid (GA.start w2)
  go_wp2
  go_loopw [6, 3] (fun ii vv wr => ∃ (j : Nat) (v : Value), j ≤ m ∧ ii = .int .i64 j ∧ v = vv ∧ Hid (GA w2 v (Ch.suK N L k j) wr)) (fun ii _ _ => m - (RowKit.intOf ii).toNat)
  case atStart => exact ⟨0, _, Nat.zero_le _, rfl, rfl, hGA⟩
  case round =>
    clear hGA
    obtain ⟨j, v, hj, rfl, rfl, HG⟩ := hrel
    have hJr := Lib.hid (hJ2.out.below HG.out.b)
    have k0 := hJr.out.c0
    have k1 := hJr.out.c1
    by_cases hlt : j < m
    · have hi5 : (j : Int) < (m : Int) := by omega
      have hjL : j < L.length := by have := hm.out; omega
      have hbA : Below wr.heap.size wr (wr.alloc (Obj.cells #[.int .i64 (j : Int)] 3)) := (Below.refl _ _).alloc (Nat.le_refl _) _
      have hJA := Lib.hid (hJr.out.below hbA)
      have HW := HWo.out wr j hJA.out
      rw [show Ch.wo L [(j : Int)] m = Ch.kept L ((Ch.none' L.length).set j true) by rw [← hm.out]; exact Ch.wo_one hjL] at HW
      have hcv := hcov.out j
      have HK := Lib.hid (HKt.out j)
      obtain ⟨M, hM⟩ : ∃ M, Ch.kept L ((Ch.none' L.length).set j true) = M := ⟨_, rfl⟩
      rw [hM] at HW hcv HK
      have hht := Lib.hid fun (h : Ch.cons N L ((Ch.none' L.length).set j true) k = true) => Ch.suK_hit h
      have hms := Lib.hid fun (h : Ch.cons N L ((Ch.none' L.length).set j true) k = false) => Ch.suK_miss h
      have hlen := Ch.suK_len N L k j
      obtain ⟨sp, hsp⟩ : ∃ sp, Ch.cons N L ((Ch.none' L.length).set j true) k = sp := ⟨_, rfl⟩
      rw [hsp] at hcv hht hms
      have HGA := Lib.hid (HG.out.below hbA)
      replace HW := Lib.hid HW
      replace hcv := Lib.hid hcv
      clear hM hsp hbA hJr HG
      go_wp2_with fail
      refine HW.out.mono ?_
      rintro e w3 ⟨xv, rfl, hox, hb⟩
      obtain ⟨px, qx, cx, rfl, HT⟩ := HK.out w3 xv _ hox
      have hJ3 := Lib.hid (hJA.out.below hb)
      have HG3 := Lib.hid (HGA.out.below hb)
      replace HT := Lib.hid HT
      clear hb hox HW HK hJA HGA k0 k1
      go_wp2_with fail
      refine HT.out.mono ?_
      rintro e w4 ⟨hb, h⟩
      have HG4 := Lib.hid (HG3.out.below hb)
      rcases h with ⟨hnz, rfl⟩ | ⟨hyz, ob3, dc3, R3, rfl, _⟩
      · obtain rfl : false = sp := by
          cases sp
          · rfl
          · exact absurd (hcv.out.2 rfl) hnz
        have hms2 := Lib.hid (hms.out rfl)
        clear hb hnz HT hJ3 HG3 hcv hht hms
        go_wp2
        go_roundw
        case rel => exact ⟨j + 1, _, by omega, by go_num, rfl, Lib.hid (by rw [hms2.out]; exact HG4.out)⟩
        case measure => show m - ((j : Int) + 1).toNat < m - (j : Int).toNat; omega
      · obtain rfl : true = sp := (hcv.out.1 hyz).symm
        have hht2 := Lib.hid (hht.out rfl)
        clear hb hyz HT hJ3 HG3 hcv hht hms
        have hown := HG4.out.own
        have hsz := HG4.out.b.size
        go_wp2_with (first
          | (at_builtin; refine wpList_append_own _ rfl (.tmp 31) (.tmp 33) 32 rfl w2.heap.size 3 i0 (.int .i64 0) 1 8 Try.underlying32 hi hz0 hz1 hz2 rfl (by decide) _ _ _ rfl (hown.alloc _) ⟨w4.heap.size, 0, none⟩ 1 1 [.int .i64 (j : Int)] rfl rfl ?c1 ?c2 ?c3 ?c4 ?c5 ?_)
          | fail)
        case c1 =>
          intro j u hj
          match j, hj with
          | 0, hj => simp at hj; subst hj; simp [Addr.add]
        case c2 => intro u hu; simp at hu; subst hu; rfl
        case c3 => unfold maxLen; omega
        case c4 => omega
        case c5 => simp; omega
        intro v' w6 hown' hgrow hnn
        have HG6 := Lib.hid (HG4.out.push _ hown' hgrow)
        clear hown hown' hgrow hnn HG4
        go_wp2
        go_roundw
        case rel => exact ⟨j + 1, _, by omega, by go_num, rfl, Lib.hid (by rw [hht2.out]; exact HG6.out)⟩
        case measure => show m - ((j : Int) + 1).toNat < m - (j : Int).toNat; omega
    · obtain rfl : j = m := by omega
      have hi5 : ¬ (j : Int) < (j : Int) := by omega
      have hB := hJr.out.b
      have how := owns_base (base' := w.heap.size) HG.out.own hJ2.out.b.size
      clear hJr HG
      go_wp2
      go_ret
      exact ⟨_, rfl, how, hB⟩
set_option linter.unusedSimpArgs false in
set_option maxRecDepth 100000 in
set_option maxHeartbeats 16000000 in
theorem rreduce_any (n : Int) (a : Option Addr) (m cap : Nat) (L : List Ch.Lk) (hm : Hid (L.length = m)) (k : Nat) (h : Ch.EA n L k) (ho : Ch.opn n L [] k = 0) (w : World) (hL : Hid (LksAt w a L)) :
    Calls Try.prog 37 #[sysV n a m cap] w (RwlPost w (Ch.leftK (Ch.rd n.toNat L k m) m)) := by
  obtain ⟨i0, hi, hz0, hz1, hz2⟩ := info_parts infoInt
  obtain ⟨hck, _, hcn⟩ := Ch.opn_ok ho
  obtain ⟨n1, n2, n3, hok⟩ := Ch.check_ok hck
  obtain ⟨σ, hσ⟩ := h.en.cons hck hcn
  have hm3 : m ≤ 300 := by have := hm.out; omega
  have HTi := Lib.hid fun (W : World) (h : SB w n a m cap L W) => rtight_any n a m cap L hm hck W (Lib.hid h.l)
  have HWo := Lib.hid fun (W : World) (p : Option Addr) (q c2 : Nat) (l : List Int) (hq : l.length = q) (hq9 : q ≤ 1000) (h : SB w n a m cap L W) (hl : IntsAt W p l) => rwithout_any n a p m q cap c2 L l hm (Lib.hid hq) (by omega) hq9 W (Lib.hid h.l) (Lib.hid hl)
  have HKt := Lib.hid fun (D : List Bool) => kept_tight n L (Ch.kept L D) _ rfl hck
  have hex := Lib.hid fun (D : List Bool) => show ∃ σ, Ch.Sol (Ch.kept L D) [] σ from ⟨σ, Ch.kept_sol hσ⟩
  have hcov := Lib.hid fun (c : Nat) (hc : c < L.length) => show (∀ u, u < n.toNat → ∀ v, v < n.toNat → Ch.fyT n.toNat L u v = Ch.fyT n.toNat (Ch.kept L ((Ch.rd n.toNat L k c).set (L.length - 1 - c) true)) u v) ↔ Ch.spares n.toNat L (Ch.rd n.toNat L k c) k (L.length - 1 - c) = true by
    obtain ⟨k2, hk2⟩ := Ch.ea_ex n (Ch.kept L ((Ch.rd n.toNat L k c).set (L.length - 1 - c) true))
    rw [h.fy_cov ho (hk2 k2 (Nat.le_refl _))]
    exact (h.spares_all ho (by omega) (Ch.rd_off _ _ _ _ _ (by omega)) (h.rd_cov ho c (by omega))).symm
  have hyes := Lib.hid (⟨σ, hσ⟩ : ∃ σ, Ch.Sol L [] σ)
  have hgo := Ch.goneK_gR (n := n.toNat) (L := L) (k := k)
  rw [hm.out] at hgo
  rw [← hgo]
  obtain ⟨N, rfl⟩ : ∃ N : Nat, n = (N : Int) := ⟨n.toNat, by omega⟩
  simp only [Int.toNat_natCast] at *
  unfold sysV at *
  clear h ho hck hcn hσ hok hgo
  have hJ := Lib.hid (SB.mk (w := w) (n := (N : Int)) (a := a) (m := m) (cap := cap) (W := w.alloc (Obj.cells #[.int .i64 (N : Int), .slice a m cap] 24)) (by simp [go_sem]) (by simp [go_sem]) (hL.out.below (below_alloc (Below.refl _ _) _)) (below_alloc (Below.refl _ _) _))
  clear hL
  go_enter Try.func37, Try.ntmps37
  go_wp2_with fail
  refine (HTi.out _ hJ.out).mono ?_
  rintro e w2 ⟨hb, h⟩
  obtain ⟨_, ob, dc, R2, rfl, ht⟩ := h.resolve_left (fun h => h.1 hyes.out)
  have hJ2 := Lib.hid (hJ.out.below hb)
  have hU2 := Lib.hid ht
  clear hb h ht HTi hJ hyes
  have hGA := Lib.hid (GA.start w2)
  have k0 := hJ2.out.c0
  have k1 := hJ2.out.c1
  have hwm : IntKind.i64.wrap ((m : Int) - 1) = (m : Int) - 1 := wrap_ok (by omega) (by omega)
  go_wp2
  clear k0 k1 hwm
  go_loopw [6, 5] (fun ii vv wr => ∃ (c : Nat) (v : Value), c ≤ m ∧ ii = .int .i64 ((m : Int) - 1 - (c : Int)) ∧ v = vv ∧ Hid (GA w2 v (Ch.gR N L k c) wr)) (fun ii _ _ => ((RowKit.intOf ii) + 1).toNat)
  case atStart => exact ⟨0, _, Nat.zero_le _, by simp, rfl, hGA⟩
  case round =>
    clear hGA
    obtain ⟨c, v, hc, rfl, rfl, HG⟩ := hrel
    by_cases hlt : c < m
    · have hcL : c < L.length := by have := hm.out; omega
      obtain ⟨j, hj⟩ : ∃ j : Nat, j = m - 1 - c := ⟨_, rfl⟩
      have hjm : (m : Int) - 1 - (c : Int) = (j : Int) := by omega
      rw [hjm]
      have hjL : L.length - 1 - c = j := by have := hm.out; omega
      have hi5 : (0 : Int) ≤ (j : Int) := by omega
      have hwj : IntKind.i64.wrap ((j : Int) - 1) = (j : Int) - 1 := wrap_ok (by omega) (by omega)
      have hnx : Hid ((j : Int) - 1 = (m : Int) - 1 - ((c + 1 : Nat) : Int)) := Lib.hid (by omega)
      have hbA : Below wr.heap.size wr (wr.alloc (Obj.cells #[.int .i64 (j : Int)] 3)) := (Below.refl _ _).alloc (Nat.le_refl _) _
      have hrow : (wr.alloc (Obj.cells #[.int .i64 (j : Int)] 3)).ownsRow w2.heap.size 3 1 (.slice (some ⟨wr.heap.size, 0, none⟩) 1 1) 1 [.int .i64 (j : Int)] := ⟨rfl, .inr ⟨wr.heap.size, 1, #[.int .i64 (j : Int)], rfl, HG.out.b.size, heap_alloc_new _ _, by omega, by unfold maxLen; omega, rfl, rfl⟩⟩
      have hcv := hcov.out c hcL
      have hwo := Ch.wo_gR (n := N) (L := L) (k := k) hcL
      have hhit := Lib.hid fun h => Ch.gR_hit (n := N) (L := L) (k := k) (c := c) h
      have hmis := Lib.hid fun h => Ch.gR_miss (n := N) (L := L) (k := k) (c := c) h
      have hlen := Ch.gR_len N L k c
      rw [hjL] at hcv hwo hhit hmis
      obtain ⟨sp, hsp⟩ : ∃ sp, Ch.spares N L (Ch.rd N L k c) k j = sp := ⟨_, rfl⟩
      rw [hsp] at hcv hhit hmis
      have HK := Lib.hid (HKt.out ((Ch.rd N L k c).set j true))
      have hexj := Lib.hid (hex.out ((Ch.rd N L k c).set j true))
      obtain ⟨M, hM⟩ : ∃ M, Ch.kept L ((Ch.rd N L k c).set j true) = M := ⟨_, rfl⟩
      rw [hM] at hcv hwo HK hexj
      obtain ⟨G, hG⟩ : ∃ G, Ch.gR N L k c = G := ⟨_, rfl⟩
      rw [hG] at hwo hhit hmis HG hlen
      rw [hm.out] at hwo
      have HGA := Lib.hid (HG.out.below hbA)
      replace hcv := Lib.hid hcv
      replace hwo := Lib.hid hwo
      replace hrow := Lib.hid hrow
      have hglt := Lib.hid fun g hg => owns_lt HG.out.own (g := g) hg
      clear hM hG hsp hbA hjL HG hjm hj
      have hrow1 := hrow.out
      have hown1 := HGA.out.own
      have hsz1 := HGA.out.b.size
      have hl9 : 1 + G.length ≤ 100000 := by omega
      go_wp2_with (first
        | (at_builtin; refine wpList_append_src rfl (.tmp 26) (.tmp 27) rfl w2.heap.size _ _ 1 [.int .i64 (j : Int)] rfl hrow1 v G rfl hown1 hl9 hsz1 ?_)
        | fail)
      intro v3 w3 hown3 hgrow3
      have hGv3 := Lib.hid (GA.mk (w1 := w2) (v := v3) (pre := j :: G) (W := w3) (by rw [List.length_cons, Nat.add_comm, List.map_cons]; exact hown3) (below_grown HGA.out.b hrow1 hgrow3))
      have hkeep := But.mk hgrow3.os hgrow3.tape hgrow3.output hgrow3.size (T := fun g => g = wr.heap.size) (fun kk h1 h2 => hgrow3.block kk h1 (fun e => h2 (by cases e; rfl)))
      have hGv4 := Lib.hid (GA.mk (w1 := w2) (v := v) (pre := G) (W := w3) (owns_but hown1 hkeep (fun g hg e => by have := hglt.out g hg; omega)) hGv3.out.b)
      have hJ3 := Lib.hid (hJ2.out.below hGv3.out.b)
      obtain ⟨p3, c3, hv3, hI3, _⟩ := ints_of_own hGv3.out.own
      have HW := HWo.out w3 p3 (G.length + 1) c3 (Ch.ints (j :: G)) (by rw [Ch.ints_len]; rfl) (by omega) hJ3.out hI3
      rw [hwo.out] at HW
      replace HW := Lib.hid HW
      rw [show (j :: G).length = G.length + 1 from rfl] at hv3
      obtain ⟨gl, hgl⟩ : ∃ gl, G.length + 1 = gl := ⟨_, rfl⟩
      rw [hgl] at HW hv3
      subst hv3
      have k0 := hJ3.out.c0
      have k1 := hJ3.out.c1
      replace hgl := Lib.hid hgl
      clear hown3 hgrow3 hkeep hrow hrow1 hown1 hsz1 HGA hI3 hglt hwo
      go_wp2_with fail
      refine HW.out.mono ?_
      rintro e w4 ⟨xv, rfl, hox, hb⟩
      obtain ⟨px, qx, cx, rfl, HT⟩ := HK.out w4 xv _ hox
      have hGa := Lib.hid (hGv3.out.below hb)
      have hGb := Lib.hid (hGv4.out.below hb)
      replace HT := Lib.hid HT
      clear hb hox HW HK hJ3 hGv3 hGv4 k0 k1
      go_wp2_with fail
      refine HT.out.mono ?_
      rintro e w5 ⟨hb, h⟩
      obtain ⟨_, ob3, dc3, R3, rfl, ht⟩ := h.resolve_left (fun h => h.1 hexj.out)
      have hGc := Lib.hid (hGa.out.below hb)
      have hGd := Lib.hid (hGb.out.below hb)
      have HSt := Lib.hid (sameTable_two N ob ob3 dc dc3 R2 R3 (by omega) _ _ sp hcv w5 (Lib.hid (hU2.out.below hGc.out.b)) (Lib.hid ht))
      clear hb h ht HT hGa hGb hexj hcv
      go_wp2_with fail
      refine HSt.out.mono ?_
      rintro e w6 ⟨rfl, hb⟩
      have hGe := Lib.hid (hGc.out.below hb)
      have hGf := Lib.hid (hGd.out.below hb)
      clear hb HSt hGc hGd
      cases sp
      · have hh := hmis.out rfl
        replace hh := Lib.hid hh
        clear hhit hmis
        go_wp2
        go_roundw
        case rel => exact ⟨c + 1, _, by omega, by rw [hnx.out], rfl, Lib.hid (by rw [hh.out]; exact hGf.out)⟩
        case measure => first | (show ((j : Int) - 1 + 1).toNat < ((j : Int) + 1).toNat; omega) | (show ((j : Int) - 1 + 1).toNat < ((m : Int) - 1 - (c : Int) + 1).toNat; omega)
      · have hh := hhit.out rfl
        replace hh := Lib.hid hh
        clear hhit hmis
        go_wp2
        go_roundw
        case rel => exact ⟨c + 1, _, by omega, by rw [hnx.out], rfl, Lib.hid (by rw [hh.out]; exact hGe.out)⟩
        case measure => first | (show ((j : Int) - 1 + 1).toNat < ((j : Int) + 1).toNat; omega) | (show ((j : Int) - 1 + 1).toNat < ((m : Int) - 1 - (c : Int) + 1).toNat; omega)
    · obtain rfl : c = m := by omega
      rw [show (c : Int) - 1 - (c : Int) = -1 by omega]
      have hlen := Ch.gR_len N L k c
      obtain ⟨G, hG⟩ : ∃ G, Ch.gR N L k c = G := ⟨_, rfl⟩
      rw [hG] at HG hlen ⊢
      obtain ⟨p3, c3, rfl, hI3, _⟩ := ints_of_own HG.out.own
      have hJr := Lib.hid (hJ2.out.below HG.out.b)
      have hI := Lib.hid hI3
      obtain ⟨gl, hgl⟩ : ∃ gl, G.length = gl := ⟨_, rfl⟩
      rw [hgl]
      have hgl2 : Hid ((Ch.ints G).length = gl) := Lib.hid (by rw [Ch.ints_len]; exact hgl)
      have hgl9 : gl ≤ 1000 := by omega
      obtain ⟨V, rfl⟩ : ∃ V, V = wr := ⟨_, rfl⟩
      have hGA2 := Lib.hid (GA.start V)
      replace hG := Lib.hid hG
      clear hI3 HG hgl hlen
      go_wp2
      go_loopw [11, 10] (fun ii vv wr => ∃ (j : Nat) (v : Value), j ≤ c ∧ ii = .int .i64 j ∧ v = vv ∧ Hid (GA V v (Ch.goneK G j) wr)) (fun ii _ _ => c - (RowKit.intOf ii).toNat)
      case atStart => exact ⟨0, _, Nat.zero_le _, rfl, rfl, hGA2⟩
      case round =>
        clear hGA2
        obtain ⟨j, v, hj, rfl, rfl, HG⟩ := hrel
        have hJw := Lib.hid (hJr.out.below HG.out.b)
        have k0 := hJw.out.c0
        have k1 := hJw.out.c1
        by_cases hlt : j < c
        · have hi5 : (j : Int) < (c : Int) := by omega
          cases hh : decide ((j : Int) ∈ Ch.ints G)
          · have HH := Lib.hid (has_any p3 gl c3 (Ch.ints G) j hgl2 hgl9 false (Lib.hid hh) wr (Lib.hid (hI.out.below HG.out.b)))
            have hht := Lib.hid (Ch.goneK_hit hh)
            have hlen := Ch.goneK_len G j
            clear hh hJw
            go_wp2_with fail
            refine HH.out.mono ?_
            rintro e w4 ⟨rfl, hw⟩
            subst hw
            have hown := HG.out.own
            have hsz := HG.out.b.size
            clear HH k0 k1
            go_wp2_with (first
              | (at_builtin; refine wpList_append_own _ rfl (.tmp 51) (.tmp 53) 32 rfl V.heap.size 3 i0 (.int .i64 0) 1 8 Try.underlying32 hi hz0 hz1 hz2 rfl (by decide) _ _ _ rfl (hown.alloc _) ⟨w4.heap.size, 0, none⟩ 1 1 [.int .i64 (j : Int)] rfl rfl ?c1 ?c2 ?c3 ?c4 ?c5 ?_)
              | fail)
            case c1 =>
              intro j u hj
              match j, hj with
              | 0, hj => simp at hj; subst hj; simp [Addr.add]
            case c2 => intro u hu; simp at hu; subst hu; rfl
            case c3 => unfold maxLen; omega
            case c4 => omega
            case c5 => simp; omega
            intro v' w5 hown' hgrow hnn
            have HG5 := Lib.hid (HG.out.push _ hown' hgrow)
            clear hown hown' hgrow hnn HG
            go_wp2
            go_roundw
            case rel => exact ⟨j + 1, _, by omega, by go_num, rfl, Lib.hid (by rw [hht.out]; exact HG5.out)⟩
            case measure => show c - ((j : Int) + 1).toNat < c - (j : Int).toNat; omega
          · have HH := Lib.hid (has_any p3 gl c3 (Ch.ints G) j hgl2 hgl9 true (Lib.hid hh) wr (Lib.hid (hI.out.below HG.out.b)))
            have hht := Lib.hid (Ch.goneK_miss hh)
            clear hh hJw
            go_wp2_with fail
            refine HH.out.mono ?_
            rintro e w4 ⟨rfl, hw⟩
            subst hw
            clear HH
            go_wp2
            go_roundw
            case rel => exact ⟨j + 1, _, by omega, by go_num, rfl, Lib.hid (by rw [hht.out]; exact HG.out)⟩
            case measure => show c - ((j : Int) + 1).toNat < c - (j : Int).toNat; omega
        · obtain rfl : j = c := by omega
          have hi5 : ¬ (j : Int) < (j : Int) := by omega
          have hB := hJw.out.b
          have how := owns_base (base' := w.heap.size) HG.out.own hJr.out.b.size
          rw [← hG.out] at how
          clear hJw HG
          go_wp2
          go_ret
          exact ⟨_, rfl, how, hB⟩
end Go.Proofs.Ytkcchangkhklcaa
