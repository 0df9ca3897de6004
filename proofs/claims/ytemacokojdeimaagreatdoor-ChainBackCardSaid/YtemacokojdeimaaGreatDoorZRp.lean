/- The specification's Parse. Written by wip/tools/genRp.py. -/
import Derived.Test.YtemacokojdeimaaGreatDoorZPt
import Derived.Test.YtemacokojdeimaaGreatDoorZVl
import Derived.Test.YtemacokojdeimaaGreatDoorZRx
import Derived.Test.YtemacokojdeimaaGreatDoorZRc
set_option linter.unusedSimpArgs false
set_option linter.unusedVariables false
namespace Tx
theorem vAt_ge (s : List UInt8) (p : Nat) : p ≤ (vAt s p).2 := by
  unfold vAt
  split
  · show p ≤ p + 1 + _; omega
  · show p ≤ p + _; omega
theorem vAt_le (s : List UInt8) (p : Nat) : (vAt s p).2 ≤ max p s.length := by
  unfold vAt
  split
  · rename_i h
    have hp : p < s.length := by
      rcases Nat.lt_or_ge p s.length with h1 | h1
      · exact h1
      · rw [List.drop_of_length_le h1] at h; cases h
    have := (dgo_le (s.drop (p + 1)) 0 (Nat.zero_le _)).2
    rw [List.length_drop] at this
    show p + 1 + _ ≤ _
    omega
  · have := (dgo_le (s.drop p) 0 (Nat.zero_le _)).2
    rw [List.length_drop] at this
    show p + _ ≤ _
    omega
theorem lkGo_end {s : List UInt8} {k p : Nat} {acc : List Ch.Lk} (h : k = 0 ∨ s.length ≤ p + 6) : lkGo s k p acc = acc := by
  cases k with
  | zero => rfl
  | succ k => rw [lkGo, if_neg (by omega)]
end Tx
namespace Go.Proofs.YtemacokojdeimaaGreatDoor
open Go.RowKit

theorem ba_take (s : ByteArray) (h : 6 ≤ s.size) : (s.extract 0 6).data.toList = s.data.toList.take 6 := Lib.extract_from_zero s 6

set_option maxRecDepth 100000 in
set_option maxHeartbeats 8000000 in
theorem rparse_any (s : ByteArray) (hs : s.size ≤ 1000000) (w : World) :
    Calls Tryz.prog 10 #[.string s] w (RdPost w (Tx.rprs s.data.toList)) := by
  obtain ⟨r, hr⟩ : ∃ r, Tx.rprs s.data.toList = r := ⟨_, rfl⟩
  rw [hr]
  unfold Tx.rprs at hr
  have hz : s.data.toList.length = s.size := by simp
  have i1 : (s.size : Int) ≤ 1000000 := by omega
  have rX : Zr w.heap.size (w.alloc (Obj.cells #[.int .i64 0, .slice none 0 0] 24)) := sysRow
  have bX : Below w.heap.size w (w.alloc (Obj.cells #[.int .i64 0, .slice none 0 0] 24)) := below_alloc (Below.refl _ _) _
  replace rX := Lib.hid rX
  replace bX := Lib.hid bX
  by_cases h7 : s.size < 7
  · have i7 : (s.size : Int) < 7 := by omega
    have hr0 : r = none := by rw [← hr, if_pos (Or.inl (by omega))]
    subst hr0
    clear hr
    go_enter Tryz.func10, Tryz.ntmps10
    go_upto_region 1 with fail
    generalize w.alloc (Obj.cells #[.int .i64 0, .slice none 0 0] 24) = X at *
    have t0 := rX.out.c0
    have t1 := rX.out.c1
    have tz0 := rX.out.frozen 0
    have tz1 := rX.out.frozen 1
    have q0 := rX.out.zero.c0
    have q1 := rX.out.zero.c1
    have hZ := zeroB bX.out
    go_wp2
    clear t0 t1 tz0 tz1
    generalize (X.setCell ⟨w.heap.size, 0, none⟩ (.int .i64 0)).setCell ⟨w.heap.size, 1, none⟩ (.slice none 0 0) = Z at *
    refine bodyPost_ret (v := .tuple #[.agg #[.int .i64 0, .slice none 0 0], .bool false]) (by simp [results, Tryz.results10, go_sem, q0, q1]) rfl ?_
    exact rdPost_none _ _ _ rfl hZ
  · have i7 : ¬ (s.size : Int) < 7 := by omega
    have i8 : (6 : Int) ≤ (s.size : Int) := by omega
    have htk := ba_take s (by omega)
    obtain ⟨pre, hpre⟩ : ∃ pre, s.extract 0 6 = pre := ⟨_, rfl⟩
    rw [hpre] at htk
    by_cases h6 : pre = ⟨#[110, 111, 100, 101, 115, 32]⟩
    · have n6 : (pre.toList == [110, 111, 100, 101, 115, 32]) = true := by rw [h6, ByteArray.toList_eq]; decide
      have hc : ¬ (s.data.toList.length < 7 ∨ ¬ s.data.toList.take 6 = Tx.nodesB ++ [32]) := by
        rintro (h | h)
        · omega
        · rw [← htk, h6] at h
          exact h rfl
      rw [if_neg hc] at hr
      clear hc htk
      obtain ⟨n, hn⟩ : ∃ n, (Tx.vAt s.data.toList 6).1 = n := ⟨_, rfl⟩
      obtain ⟨p0, hp0⟩ : ∃ p0, (Tx.vAt s.data.toList 6).2 = p0 := ⟨_, rfl⟩
      have hple : p0 ≤ max 6 s.size := by rw [← hp0, ← hz]; exact Tx.vAt_le _ _
      have HV := value_any s hs 6 (by omega)
      rw [hn, hp0] at hr HV
      replace HV := Lib.hid HV
      obtain ⟨L, hL⟩ : ∃ L, Tx.lkGo s.data.toList 301 p0 [] = L := ⟨_, rfl⟩
      rw [hL] at hr
      replace hr := Lib.hid hr
      replace hL := Lib.hid hL
      clear hn hp0
      go_enter Tryz.func10, Tryz.ntmps10
      go_upto_region 1 with fail
      generalize w.alloc (Obj.cells #[.int .i64 0, .slice none 0 0] 24) = X at *
      go_wp2_with fail
      refine (HV.out _).mono ?_
      rintro e w2 ⟨rfl, hb2⟩
      have bX2 := bX.out.trans (hb2.mono bX.out.size)
      have rX2 := rX.out.below hb2
      have lX2 := block_lt_of_cell rX2.c0
      clear bX rX hb2 HV n6 h6 hpre
      go_upto_region 5 with fail
      have rY : (w2.alloc (Obj.cells #[.int .i64 n, .slice none 0 0] 24)).rowIs w2.heap.size 24 2 (fun i => if i = 0 then .int .i64 n else .slice none 0 0) := sysRow
      have zY : (w2.alloc (Obj.cells #[.int .i64 n, .slice none 0 0] 24)).heap.size = w2.heap.size + 1 := by simp
      have bY := Lib.hid (below_alloc bX2 (Obj.cells #[.int .i64 n, .slice none 0 0] 24))
      have rZ := Lib.hid (rX2.below ((Below.refl _ _).alloc (Nat.le_refl _) (Obj.cells #[.int .i64 n, .slice none 0 0] 24)))
      generalize w2.alloc (Obj.cells #[.int .i64 n, .slice none 0 0] 24) = Y at *
      have hlt9 : w.heap.size < w2.heap.size := lX2
      obtain ⟨ob, hob⟩ : ∃ ob, w2.heap.size = ob := ⟨_, rfl⟩
      rw [hob] at hlt9 rY zY ⊢
      have hWO := Lib.hid (WO.mk (Y := Y) (W := Y) (ob := ob) (n := n) (v := .slice none 0 0) (pre := []) rY (World.ownsRow_nil _ _ _ _) (But.refl _ _) (by omega))
      have hobY : ob < Y.heap.size := by omega
      clear lX2 bX2 rX2 rY hob zY
      go_wp2
      go_loopw [5] (fun pv wr => ∃ (p k : Nat) (acc : List Ch.Lk) (v : Value), pv = .int .i64 (p : Int) ∧ p ≤ 1000010 ∧ Hid (acc.length + k = 301) ∧ Hid (WO Y wr ob n v acc) ∧ Hid (Tx.lkGo s.data.toList k p acc = L)) (fun pv _ => 1000020 - (RowKit.intOf pv).toNat)
      case atStart => exact ⟨p0, 301, [], .slice none 0 0, rfl, by omega, Lib.hid rfl, hWO, hL⟩
      case round =>
        clear hWO hL hple
        obtain ⟨p, k, acc, v, rfl, hp, hk, HO, hL⟩ := hrel
        have bX := Lib.hid (bY.out.trans (HO.out.b.below bY.out.size (fun k hk e => by omega)))
        have rX := Lib.hid (show Zr w.heap.size wr from rZ.out.of_block (HO.out.b.block _ rZ.out.lt (by show ¬ w.heap.size = ob; omega)))
        have j1 : (0 : Int) ≤ (p : Int) := by omega
        have j2 : (p : Int) ≤ 1000010 := by omega
        have hkk := hk.out
        obtain ⟨p9, cp9, hv9, _⟩ := owns_slice HO.out.o
        subst hv9
        have o1 : wr.cell? ⟨ob, 1, none⟩ = some (.slice p9 acc.length cp9) := HO.out.r.cell (i := 1) (by omega)
        by_cases hgo : p + 6 < s.size ∧ acc.length ≤ 300
        · obtain ⟨g1, g2⟩ := hgo
          have k1 : (p : Int) + 6 < (s.size : Int) := by omega
          have k2 : (acc.length : Int) ≤ 300 := by omega
          obtain ⟨k, rfl⟩ : ∃ j, k = j + 1 := ⟨k - 1, by omega⟩
          rw [Tx.lkGo, if_pos (by omega)] at hL
          have V1 := value_any s hs (p + 6) (by omega)
          have q1 := Tx.vAt_le s.data.toList (p + 6)
          have u1 := Tx.vAt_ge s.data.toList (p + 6)
          obtain ⟨f, hf⟩ : ∃ f, (Tx.vAt s.data.toList (p + 6)).1 = f := ⟨_, rfl⟩
          obtain ⟨pa, hpa⟩ : ∃ pa, (Tx.vAt s.data.toList (p + 6)).2 = pa := ⟨_, rfl⟩
          rw [hf, hpa] at V1
          rw [hpa] at q1 u1
          rw [hf, hpa] at hL
          have V2 := value_any s hs (pa + 1) (by omega)
          have q2 := Tx.vAt_le s.data.toList (pa + 1)
          have u2 := Tx.vAt_ge s.data.toList (pa + 1)
          obtain ⟨t, ht⟩ : ∃ t, (Tx.vAt s.data.toList (pa + 1)).1 = t := ⟨_, rfl⟩
          obtain ⟨pb, hpb⟩ : ∃ pb, (Tx.vAt s.data.toList (pa + 1)).2 = pb := ⟨_, rfl⟩
          rw [ht, hpb] at V2
          rw [hpb] at q2 u2
          rw [ht, hpb] at hL
          have V3 := value_any s hs (pb + 1) (by omega)
          have q3 := Tx.vAt_le s.data.toList (pb + 1)
          have u3 := Tx.vAt_ge s.data.toList (pb + 1)
          obtain ⟨mo, hmo⟩ : ∃ mo, (Tx.vAt s.data.toList (pb + 1)).1 = mo := ⟨_, rfl⟩
          obtain ⟨pc, hpc⟩ : ∃ pc, (Tx.vAt s.data.toList (pb + 1)).2 = pc := ⟨_, rfl⟩
          rw [hmo, hpc] at V3
          rw [hpc] at q3 u3
          rw [hmo, hpc] at hL
          clear hf hpa ht hpb hmo hpc
          have b1 : (pa : Int) ≤ 1000020 := by omega
          have b2 : (pb : Int) ≤ 1000020 := by omega
          have b3 : (0 : Int) ≤ (pa : Int) := by omega
          have b4 : (0 : Int) ≤ (pb : Int) := by omega
          rw [show ((p + 6 : Nat) : Int) = (p : Int) + 6 by omega] at V1
          rw [show ((pa + 1 : Nat) : Int) = (pa : Int) + 1 by omega] at V2
          rw [show ((pb + 1 : Nat) : Int) = (pb : Int) + 1 by omega] at V3
          replace V1 := Lib.hid V1
          replace V2 := Lib.hid V2
          replace V3 := Lib.hid V3
          replace hL := Lib.hid hL.out
          go_wp2_with fail
          refine (V1.out _).mono ?_
          rintro e w3 ⟨rfl, hb3⟩
          have HO3 := Lib.hid (HO.out.drewN hb3)
          clear V1 HO o1 hb3 bX rX
          go_wp2_with fail
          refine (V2.out _).mono ?_
          rintro e w4 ⟨rfl, hb4⟩
          have HO4 := Lib.hid (HO3.out.drewN hb4)
          clear V2 HO3 hb4
          go_wp2_with fail
          refine (V3.out _).mono ?_
          rintro e w5 ⟨rfl, hb5⟩
          have HO5 := Lib.hid (HO4.out.drewN hb5)
          clear V3 HO4 hb5
          have o1 : w5.cell? ⟨ob, 1, none⟩ = some (.slice p9 acc.length cp9) := HO5.out.r.cell (i := 1) (by omega)
          go_upto_region 9 with fail
          have hlen2 := HO5.out.b.size
          go_wp2_with (first
            | (at_builtin; refine wpList_append_lks rfl (.tmp 62) (.tmp 67) rfl Y.heap.size _ acc.length acc rfl (HO5.out.o.alloc _) (some ⟨w5.heap.size, 0, none⟩) 1 1 [⟨f, t, mo⟩] rfl rfl (lks_one w5 f t mo) (fun h => by cases h) ?c1 ?c2 ?_)
            | fail)
          case c1 => omega
          case c2 => simp; omega
          intro v' w6 hown6 hgrow6
          obtain ⟨p1, cp1, hv1, _⟩ := owns_slice hown6
          subst hv1
          obtain ⟨HP, r2⟩ := HO5.out.push ((Below.refl _ _).alloc (Nat.le_refl _) _) hgrow6 hown6
          have t1 := r2.cell (i := 1) (by omega)
          have tz1 := r2.frozen 1
          simp only [Nat.one_ne_zero, if_false] at t1
          replace HP := Lib.hid HP
          clear hown6 hgrow6 HO5 r2 o1
          go_wp2
          go_roundw
          case rel => exact ⟨pc, k, _, _, rfl, by omega, Lib.hid (by rw [List.length_append]; show acc.length + 1 + k = 301; omega), HP, hL⟩
          case measure => show 1000020 - (pc : Int).toNat < 1000020 - (p : Int).toNat; omega
        · have hLe : acc = L := by
            have h := hL.out
            rw [Tx.lkGo_end (by omega)] at h
            exact h
          subst hLe
          have HE := Lib.hid (fun (W : World) (hw : LksAt W p9 acc) => rerror_any n p9 cp9 acc W hw)
          have hYs := bY.out.size
          have ho1 := Lib.hid (owns_base (base' := w.heap.size + 1) HO.out.o (by omega))
          have o0 : wr.cell? ⟨ob, 0, none⟩ = some (.int .i64 n) := HO.out.r.cell (i := 0) (by omega)
          have ngo : ¬ ((p : Int) + 6 < (s.size : Int)) ∨ ((p : Int) + 6 < (s.size : Int) ∧ ¬ (acc.length : Int) ≤ 300) := by omega
          have hLa : Hid (LksAt wr p9 acc) := Lib.hid (by
            obtain ⟨p2, c2, hv, h⟩ := lks_of_owns ho1.out
            cases hv
            exact h)
          clear HO hL hgo hkk hk
          obtain ⟨er, her⟩ : ∃ er, (Ch.check n acc).1 = er := ⟨_, rfl⟩
          rw [her] at HE hr
          have hrg := Tx.check_rng (n := n) (L := acc)
          rw [her] at hrg
          have hobw := block_lt_of_cell o0
          rcases ngo with ngo | ⟨ngo, ngo2⟩
          · go_wp2_with fail
            refine (HE.out _ hLa.out).mono ?_
            rintro e w3 ⟨rfl, hb3⟩
            replace o0 := kept1 o0 hb3
            replace o1 := kept1 o1 hb3
            have bX3 := Lib.hid (bX.out.trans (hb3.mono bX.out.size))
            have rX3 := Lib.hid (rX.out.below hb3)
            have ho3 := Lib.hid (own_bel ho1.out hb3)
            have hLa3 := Lib.hid (hLa.out.below hb3)
            clear bX rX ho1 hLa hb3 HE
            by_cases h0 : er = 0
            · subst h0
              obtain ⟨r1, r2, r3⟩ := hrg rfl
              clear hrg
              obtain ⟨P, hP⟩ : ∃ P : ByteArray, (⟨(Tx.prt n acc).toArray⟩ : ByteArray) = P := ⟨_, rfl⟩
              have HP := Lib.hid (rprint_any n p9 acc.length cp9 acc (Lib.hid rfl) r2 (Lib.hid ⟨by unfold Tx.R64'; omega, fun l hl => by have := r3 l hl; unfold Tx.R64'; omega⟩) (by omega) (Lib.hid (fun l hl => by have := r3 l hl; omega)) w3 (Lib.hid hLa3.out))
              rw [hP] at HP
              clear r1 r2 r3
              go_wp2_with fail
              refine HP.out.mono ?_
              rintro e w4 ⟨rfl, hb4⟩
              replace o0 := kept1 o0 hb4
              replace o1 := kept1 o1 hb4
              have bX4 := Lib.hid (bX3.out.trans (hb4.mono bX3.out.size))
              have rX4 := Lib.hid (rX3.out.below hb4)
              have ho4 := Lib.hid (own_bel ho3.out hb4)
              clear bX3 rX3 ho3 hLa3 hb4 HP
              by_cases hPs : P = s
              · have nP : (P.toList == s.toList) = true := by rw [hPs]; exact beq_self_eq_true _
                have hr0 : r = some (n, acc) := by
                  rw [← hr.out, if_pos ⟨by first | rfl | trivial, by rw [← hPs, ← hP]⟩]
                subst hr0
                have t0 := rX4.out.c0
                have t1 := rX4.out.c1
                have tz0 := rX4.out.frozen 0
                have tz1 := rX4.out.frozen 1
                have q0 : ((w4.setCell ⟨w.heap.size, 0, none⟩ (.int .i64 n)).setCell ⟨w.heap.size, 1, none⟩ (.slice p9 acc.length cp9)).cell? ⟨w.heap.size, 0, none⟩ = some (.int .i64 n) := ((rX4.out.set 0 _).set 1 _).cell (i := 0) (by omega)
                have q1 : ((w4.setCell ⟨w.heap.size, 0, none⟩ (.int .i64 n)).setCell ⟨w.heap.size, 1, none⟩ (.slice p9 acc.length cp9)).cell? ⟨w.heap.size, 1, none⟩ = some (.slice p9 acc.length cp9) := ((rX4.out.set 0 _).set 1 _).cell (i := 1) (by omega)
                have hB4 : Below w.heap.size w ((w4.setCell ⟨w.heap.size, 0, none⟩ (.int .i64 n)).setCell ⟨w.heap.size, 1, none⟩ (.slice p9 acc.length cp9)) := (bX4.out.setCell (p := ⟨w.heap.size, 0, none⟩) (Nat.le_refl _) _).setCell (p := ⟨w.heap.size, 1, none⟩) (Nat.le_refl _) _
                have hown := Lib.hid (owns_base (base' := w.heap.size) (owns_but ho4.out (((But.refl (fun g => g = w.heap.size) w4).setCell (p := ⟨w.heap.size, 0, none⟩) (.inr rfl) (.int .i64 n)).setCell (p := ⟨w.heap.size, 1, none⟩) (.inr rfl) (.slice p9 acc.length cp9)) (fun g hg e => by have := owns_far ho4.out hg; omega)) (Nat.le_succ _))
                clear hPs hP
                go_wp2
                clear t0 t1 tz0 tz1 o0 o1
                generalize (w4.setCell ⟨w.heap.size, 0, none⟩ (.int .i64 n)).setCell ⟨w.heap.size, 1, none⟩ (.slice p9 acc.length cp9) = Z at *
                refine bodyPost_ret (v := .tuple #[.agg #[.int .i64 n, .slice p9 acc.length cp9], .bool true]) (by simp [results, Tryz.results10, go_sem, q0, q1]) rfl ?_
                exact ⟨hB4, _, rfl, hown⟩
              · have nP := str_ne hPs
                have hr0 : r = none := by
                  rw [← hr.out, if_neg]
                  rintro ⟨_, h⟩
                  apply hPs
                  rw [← hP]
                  apply ByteArray.ext
                  apply Array.ext'
                  exact h
                subst hr0
                clear hP
                have t0 := rX4.out.c0
                have t1 := rX4.out.c1
                have tz0 := rX4.out.frozen 0
                have tz1 := rX4.out.frozen 1
                have q0 := rX4.out.zero.c0
                have q1 := rX4.out.zero.c1
                have hZ := zeroB bX4.out
                go_wp2
                clear t0 t1 tz0 tz1
                generalize (w4.setCell ⟨w.heap.size, 0, none⟩ (.int .i64 0)).setCell ⟨w.heap.size, 1, none⟩ (.slice none 0 0) = Z at *
                refine bodyPost_ret (v := .tuple #[.agg #[.int .i64 0, .slice none 0 0], .bool false]) (by simp [results, Tryz.results10, go_sem, q0, q1]) rfl ?_
                exact rdPost_none _ _ _ rfl hZ
            · have n0 : (er != 0) = true := by simpa using h0
              have hr0 : r = none := by rw [← hr.out, if_neg (fun h => h0 h.1)]
              subst hr0
              have t0 := rX3.out.c0
              have t1 := rX3.out.c1
              have tz0 := rX3.out.frozen 0
              have tz1 := rX3.out.frozen 1
              have q0 := rX3.out.zero.c0
              have q1 := rX3.out.zero.c1
              have hZ := zeroB bX3.out
              go_wp2
              clear t0 t1 tz0 tz1
              generalize (w3.setCell ⟨w.heap.size, 0, none⟩ (.int .i64 0)).setCell ⟨w.heap.size, 1, none⟩ (.slice none 0 0) = Z at *
              refine bodyPost_ret (v := .tuple #[.agg #[.int .i64 0, .slice none 0 0], .bool false]) (by simp [results, Tryz.results10, go_sem, q0, q1]) rfl ?_
              exact rdPost_none _ _ _ rfl hZ
          · go_wp2_with fail
            refine (HE.out _ hLa.out).mono ?_
            rintro e w3 ⟨rfl, hb3⟩
            replace o0 := kept1 o0 hb3
            replace o1 := kept1 o1 hb3
            have bX3 := Lib.hid (bX.out.trans (hb3.mono bX.out.size))
            have rX3 := Lib.hid (rX.out.below hb3)
            have ho3 := Lib.hid (own_bel ho1.out hb3)
            have hLa3 := Lib.hid (hLa.out.below hb3)
            clear bX rX ho1 hLa hb3 HE
            by_cases h0 : er = 0
            · subst h0
              obtain ⟨r1, r2, r3⟩ := hrg rfl
              clear hrg
              obtain ⟨P, hP⟩ : ∃ P : ByteArray, (⟨(Tx.prt n acc).toArray⟩ : ByteArray) = P := ⟨_, rfl⟩
              have HP := Lib.hid (rprint_any n p9 acc.length cp9 acc (Lib.hid rfl) r2 (Lib.hid ⟨by unfold Tx.R64'; omega, fun l hl => by have := r3 l hl; unfold Tx.R64'; omega⟩) (by omega) (Lib.hid (fun l hl => by have := r3 l hl; omega)) w3 (Lib.hid hLa3.out))
              rw [hP] at HP
              clear r1 r2 r3
              go_wp2_with fail
              refine HP.out.mono ?_
              rintro e w4 ⟨rfl, hb4⟩
              replace o0 := kept1 o0 hb4
              replace o1 := kept1 o1 hb4
              have bX4 := Lib.hid (bX3.out.trans (hb4.mono bX3.out.size))
              have rX4 := Lib.hid (rX3.out.below hb4)
              have ho4 := Lib.hid (own_bel ho3.out hb4)
              clear bX3 rX3 ho3 hLa3 hb4 HP
              by_cases hPs : P = s
              · have nP : (P.toList == s.toList) = true := by rw [hPs]; exact beq_self_eq_true _
                have hr0 : r = some (n, acc) := by
                  rw [← hr.out, if_pos ⟨by first | rfl | trivial, by rw [← hPs, ← hP]⟩]
                subst hr0
                have t0 := rX4.out.c0
                have t1 := rX4.out.c1
                have tz0 := rX4.out.frozen 0
                have tz1 := rX4.out.frozen 1
                have q0 : ((w4.setCell ⟨w.heap.size, 0, none⟩ (.int .i64 n)).setCell ⟨w.heap.size, 1, none⟩ (.slice p9 acc.length cp9)).cell? ⟨w.heap.size, 0, none⟩ = some (.int .i64 n) := ((rX4.out.set 0 _).set 1 _).cell (i := 0) (by omega)
                have q1 : ((w4.setCell ⟨w.heap.size, 0, none⟩ (.int .i64 n)).setCell ⟨w.heap.size, 1, none⟩ (.slice p9 acc.length cp9)).cell? ⟨w.heap.size, 1, none⟩ = some (.slice p9 acc.length cp9) := ((rX4.out.set 0 _).set 1 _).cell (i := 1) (by omega)
                have hB4 : Below w.heap.size w ((w4.setCell ⟨w.heap.size, 0, none⟩ (.int .i64 n)).setCell ⟨w.heap.size, 1, none⟩ (.slice p9 acc.length cp9)) := (bX4.out.setCell (p := ⟨w.heap.size, 0, none⟩) (Nat.le_refl _) _).setCell (p := ⟨w.heap.size, 1, none⟩) (Nat.le_refl _) _
                have hown := Lib.hid (owns_base (base' := w.heap.size) (owns_but ho4.out (((But.refl (fun g => g = w.heap.size) w4).setCell (p := ⟨w.heap.size, 0, none⟩) (.inr rfl) (.int .i64 n)).setCell (p := ⟨w.heap.size, 1, none⟩) (.inr rfl) (.slice p9 acc.length cp9)) (fun g hg e => by have := owns_far ho4.out hg; omega)) (Nat.le_succ _))
                clear hPs hP
                go_wp2
                clear t0 t1 tz0 tz1 o0 o1
                generalize (w4.setCell ⟨w.heap.size, 0, none⟩ (.int .i64 n)).setCell ⟨w.heap.size, 1, none⟩ (.slice p9 acc.length cp9) = Z at *
                refine bodyPost_ret (v := .tuple #[.agg #[.int .i64 n, .slice p9 acc.length cp9], .bool true]) (by simp [results, Tryz.results10, go_sem, q0, q1]) rfl ?_
                exact ⟨hB4, _, rfl, hown⟩
              · have nP := str_ne hPs
                have hr0 : r = none := by
                  rw [← hr.out, if_neg]
                  rintro ⟨_, h⟩
                  apply hPs
                  rw [← hP]
                  apply ByteArray.ext
                  apply Array.ext'
                  exact h
                subst hr0
                clear hP
                have t0 := rX4.out.c0
                have t1 := rX4.out.c1
                have tz0 := rX4.out.frozen 0
                have tz1 := rX4.out.frozen 1
                have q0 := rX4.out.zero.c0
                have q1 := rX4.out.zero.c1
                have hZ := zeroB bX4.out
                go_wp2
                clear t0 t1 tz0 tz1
                generalize (w4.setCell ⟨w.heap.size, 0, none⟩ (.int .i64 0)).setCell ⟨w.heap.size, 1, none⟩ (.slice none 0 0) = Z at *
                refine bodyPost_ret (v := .tuple #[.agg #[.int .i64 0, .slice none 0 0], .bool false]) (by simp [results, Tryz.results10, go_sem, q0, q1]) rfl ?_
                exact rdPost_none _ _ _ rfl hZ
            · have n0 : (er != 0) = true := by simpa using h0
              have hr0 : r = none := by rw [← hr.out, if_neg (fun h => h0 h.1)]
              subst hr0
              have t0 := rX3.out.c0
              have t1 := rX3.out.c1
              have tz0 := rX3.out.frozen 0
              have tz1 := rX3.out.frozen 1
              have q0 := rX3.out.zero.c0
              have q1 := rX3.out.zero.c1
              have hZ := zeroB bX3.out
              go_wp2
              clear t0 t1 tz0 tz1
              generalize (w3.setCell ⟨w.heap.size, 0, none⟩ (.int .i64 0)).setCell ⟨w.heap.size, 1, none⟩ (.slice none 0 0) = Z at *
              refine bodyPost_ret (v := .tuple #[.agg #[.int .i64 0, .slice none 0 0], .bool false]) (by simp [results, Tryz.results10, go_sem, q0, q1]) rfl ?_
              exact rdPost_none _ _ _ rfl hZ
    · have n6 : (pre.toList == [110, 111, 100, 101, 115, 32]) = false := by
        rw [beq_eq_false_iff_ne, ByteArray.toList_eq]
        exact fun e => h6 (ByteArray.ext (Array.ext' e))
      have hr0 : r = none := by
        rw [← hr, if_pos]
        refine Or.inr (fun h => h6 ?_)
        apply ByteArray.ext
        apply Array.ext'
        rw [htk, h]
        rfl
      subst hr0
      clear hr htk
      go_enter Tryz.func10, Tryz.ntmps10
      go_upto_region 1 with fail
      generalize w.alloc (Obj.cells #[.int .i64 0, .slice none 0 0] 24) = X at *
      have t0 := rX.out.c0
      have t1 := rX.out.c1
      have tz0 := rX.out.frozen 0
      have tz1 := rX.out.frozen 1
      have q0 := rX.out.zero.c0
      have q1 := rX.out.zero.c1
      have hZ := zeroB bX.out
      go_wp2
      clear t0 t1 tz0 tz1
      generalize (X.setCell ⟨w.heap.size, 0, none⟩ (.int .i64 0)).setCell ⟨w.heap.size, 1, none⟩ (.slice none 0 0) = Z at *
      refine bodyPost_ret (v := .tuple #[.agg #[.int .i64 0, .slice none 0 0], .bool false]) (by simp [results, Tryz.results10, go_sem, q0, q1]) rfl ?_
      exact rdPost_none _ _ _ rfl hZ
end Go.Proofs.YtemacokojdeimaaGreatDoor
