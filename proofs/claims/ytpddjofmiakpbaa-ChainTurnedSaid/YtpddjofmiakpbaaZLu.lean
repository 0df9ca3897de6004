/- The law ChainTurned, walked. -/
import Derived.Test.YtpddjofmiakpbaaZGl
import Derived.Test.YtpddjofmiakpbaaZLq
import Derived.Test.YtpddjofmiakpbaaZ06
import Derived.Test.YtpddjofmiakpbaaZWo
import Derived.BigQuiet
set_option linter.unusedSimpArgs false
set_option linter.unusedVariables false
namespace Ch
/-- the first k links, turned round -/
def tk (L : List Lk) (k : Nat) : List Lk := turned (L.take k)
theorem tk_next {L : List Lk} {k : Nat} (h : k < L.length) : tk L (k + 1) = tk L k ++ [⟨(L.getD k noLk).t, (L.getD k noLk).f, (L.getD k noLk).m⟩] := by
  unfold tk turned
  rw [List.take_succ_eq_append_getElem h, List.map_append]
  congr 1
  rw [List.getD, List.getElem?_eq_getElem h]; rfl
theorem tk_len {L : List Lk} {k : Nat} (h : k ≤ L.length) : (tk L k).length = k := by
  unfold tk turned
  rw [List.length_map, List.length_take]; omega
theorem tk_all (L : List Lk) : tk L L.length = turned L := by unfold tk; rw [List.take_of_length_le (Nat.le_refl _)]
theorem least_len {n : Int} {L : List Lk} {k : Nat} (hE : (check n L).1 = 0 → enough n.toNat L [] k = true) (h : opn n L [] k = 0) : (least n L k).length = n.toNat := by
  obtain ⟨h1, _, h3⟩ := opn_ok h
  obtain ⟨n1, _⟩ := check_ok h1
  unfold least
  rw [List.length_map]
  exact (enough_bt (hE h1) h3 (v := 0) (by omega)).2.1
theorem great_len {n : Int} {L : List Lk} {k : Nat} (hE : (check n (turned L)).1 = 0 → enough n.toNat (turned L) [] k = true) (h : greatE n L k = 0) : (greatest n L k).length = n.toNat := by
  unfold greatest
  rw [List.length_map]
  refine least_len hE ?_
  unfold greatE at h
  split at h
  · rename_i h1; exact absurd h h1
  · exact h
theorem leastW_zero {n : Int} {L : List Lk} {k : Nat} (hE : EN n L k) (h : (leastW n L k).2 = 0) : (check n L).1 = 0 ∧ (leastW n L k).1.length = n.toNat ∧ ∀ i, i < n.toNat → -1152921504606846976 ≤ (leastW n L k).1.getD i 0 ∧ (leastW n L k).1.getD i 0 ≤ 1152921504606846976 := by
  unfold leastW whereB at h ⊢
  by_cases h1 : opn n L [] k = 0
  · have h1' : ¬ opn n L [] k ≠ 0 := fun hh => hh h1
    rw [if_neg h1'] at h ⊢
    by_cases h2 : (least n L k).any (fun y => y == -free) = true
    · rw [if_pos h2] at h; cases h
    · rw [if_neg h2]
      exact ⟨(opn_ok h1).1, least_len hE.en h1, least_range hE.en h1⟩
  · rw [if_pos h1] at h; exact absurd h h1
end Ch
namespace Go.Proofs.Ytpddjofmiakpbaa
open Go.RowKit

set_option linter.unusedSimpArgs false in
set_option maxRecDepth 100000 in
set_option maxHeartbeats 8000000 in
theorem turned_ok (n : Int) (a : Option Addr) (m cap : Nat) (u v : Int) (L : List Ch.Lk) (hm : Hid (L.length = m)) (hm9 : m ≤ 310) (hsm : Hid ((decide (m ≤ 310) && decide (n ≤ 70)) = true)) (k : Nat) (hT : Ch.ET n L k) (hg0 : (Ch.leastW n (Ch.turned L) k).2 = 0) (w : World) (hL : Hid (LksAt w a L)) :
    Calls Try.prog 14 #[sysV n a m cap, .int .i64 u, .int .i64 v] w (LawPost w) := by
  have hn70 : n ≤ 70 := by
    have h := hsm.out
    rw [Bool.and_eq_true, decide_eq_true_eq, decide_eq_true_eq] at h
    exact h.2
  have HSm := Lib.hid fun (W : World) => small_any n a m cap true hsm W
  have HSa := Lib.hid fun (W : World) => sanity_any W
  obtain ⟨c, d, er, hc1, hc2, hcl⟩ := hT.clash
  obtain ⟨hgl1, hgl2⟩ := Ch.great_least (n := n) (L := L) (k := k)
  have hbd := hT.bound u v
  have hop := hT.openE [] [] rfl
  have hid : (if Ch.opn n L [] k = 0 then Ch.idleK n.toNat (Ch.turned L) k L.length else []) = (if Ch.opn n L [] k = 0 then Ch.idleK n.toNat L k L.length else []) := by
    by_cases h : Ch.opn n L [] k = 0
    · rw [if_pos h, if_pos h, hT.idle h _ (Nat.le_refl _)]
    · rw [if_neg h, if_neg h]
  have hi9 : (if Ch.opn n L [] k = 0 then Ch.idleK n.toNat L k L.length else []).length ≤ 310 := by
    split
    · have := Ch.idleK_len n.toNat L k L.length
      have := hm.out
      omega
    · simp
  have HBo := Lib.hid fun (W : World) (h : SB w n a m cap L W) => bound_any n a cap L u v k hT.en.en W h.l
  have HBt := Lib.hid fun (W : World) (xb : Nat) (x : Option Addr) (cx : Nat) (h : SX xb n x m cx (Ch.turned L) W) => bound_any n x cx (Ch.turned L) v u k hT.en2.en W h.l
  have HGr := Lib.hid fun (W : World) (h : SB w n a m cap L W) => greatestW_any n (by omega) a cap L k hT.en2.en (Ch.great_len hT.en2.en) W h.l
  have HLe := Lib.hid fun (W : World) (xb : Nat) (x : Option Addr) (cx : Nat) (h : SX xb n x m cx (Ch.turned L) W) => leastW_any n (by omega) x cx (Ch.turned L) k hT.en2.en (Ch.least_len hT.en2.en) W h.l
  have HCl := Lib.hid fun (W : World) (h : SB w n a m cap L W) => clashE_any n a cap L k hT.en.en c er hc1 W h.l
  have HCt := Lib.hid fun (W : World) (xb : Nat) (x : Option Addr) (cx : Nat) (h : SX xb n x m cx (Ch.turned L) W) => clashE_any n x cx (Ch.turned L) k hT.en2.en d er hc2 W h.l
  have HId := Lib.hid fun (W : World) (h : SB w n a m cap L W) => idle_any n a cap L k hT.en.en (fun ho q _ => (hT.drop ho _).1) W h.l
  have HIt := Lib.hid fun (W : World) (xb : Nat) (x : Option Addr) (cx : Nat) (h : SX xb n x m cx (Ch.turned L) W) => idle_any n x cx (Ch.turned L) k hT.en2.en (fun ho q _ => (hT.drop (by rw [← hop]; exact ho) _).2) W h.l
  rw [hop, Ch.turned_len, hid] at HIt
  rw [hbd, Ch.turned_len] at HBt
  rw [Ch.turned_len] at HLe HCt
  rw [hm.out] at HBo HGr HCl HId HBt HLe HCt HIt hi9
  rw [hgl1, hgl2] at HGr
  obtain ⟨B, be, hbe⟩ : ∃ B be, Ch.bound n L k u v = (B, be) := ⟨_, _, rfl⟩
  rw [hbe] at HBo HBt
  obtain ⟨I, hI⟩ : ∃ I, (if Ch.opn n L [] k = 0 then Ch.idleK n.toNat L k m else []) = I := ⟨_, rfl⟩
  rw [hI] at HId HIt hi9
  obtain ⟨ie, hie⟩ : ∃ ie, Ch.opn n L [] k = ie := ⟨_, rfl⟩
  rw [hie] at HId HIt
  obtain ⟨hc0, hGl, hGr⟩ := Ch.leastW_zero hT.en2 hg0
  obtain ⟨n1, _⟩ := Ch.check_ok hc0
  rw [hg0] at HLe HGr
  obtain ⟨G, hG⟩ : ∃ G, (Ch.leastW n (Ch.turned L) k).1 = G := ⟨_, rfl⟩
  rw [hG] at HLe HGr hGl hGr
  obtain ⟨N, rfl⟩ : ∃ N : Nat, n = (N : Int) := ⟨n.toNat, by omega⟩
  simp only [Int.toNat_natCast] at *
  replace hGr := Lib.hid hGr
  clear hG hc0
  have heq : (be != be) = false := by simp
  have heq2 : (B != B) = false := by simp
  have heq3 : (er == er) = true := by simp
  have heq4 : (ie == ie) = true := by simp
  have hall := Ch.tk_all L
  rw [hm.out] at hall
  replace hcl := Lib.hid hcl
  replace hall := Lib.hid hall
  replace hi9 := Lib.hid hi9
  unfold sysV at *
  clear hT hc1 hc2 hgl1 hgl2 hbd hop hid hbe hI hie
  go_enter Try.func14, Try.ntmps14
  go_wp2_with fail
  refine (HSm.out _).mono ?_
  rintro e w1 ⟨rfl, hb⟩
  have hB1 := bstep1 (Below.refl _ _) hb
  have k0 : w1.cell? ⟨w.heap.size, 0, none⟩ = some (.int .i64 (N : Int)) := kept1 (by simp [go_sem]) hb
  have k1 : w1.cell? ⟨w.heap.size, 1, none⟩ = some (.slice a m cap) := kept1 (by simp [go_sem]) hb
  clear hb HSm hsm
  have hwb : w.heap.size < w1.heap.size := block_lt_of_cell k0
  have c0 := Lib.hid (cell_alloc k0 (Obj.cells #[.int .i64 (N : Int), .slice none 0 0] 24))
  have c1 := Lib.hid (cell_alloc k1 (Obj.cells #[.int .i64 (N : Int), .slice none 0 0] 24))
  have bY := Lib.hid (hB1.alloc hB1.size (Obj.cells #[.int .i64 (N : Int), .slice none 0 0] 24))
  have hWO : Hid (WO (w1.alloc (Obj.cells #[.int .i64 (N : Int), .slice none 0 0] 24)) (w1.alloc (Obj.cells #[.int .i64 (N : Int), .slice none 0 0] 24)) w1.heap.size (N : Int) (.slice none 0 0) (Ch.tk L 0)) := Lib.hid ⟨sysRow (X := w1) (n := (N : Int)) (p := none) (m := 0), World.ownsRow_nil _ _ _ _, But.refl _ _, by simp⟩
  have zY : w1.heap.size < (w1.alloc (Obj.cells #[.int .i64 (N : Int), .slice none 0 0] 24)).heap.size := by simp
  go_upto_region 4 with fail
  generalize w1.alloc (Obj.cells #[.int .i64 (N : Int), .slice none 0 0] 24) = Y at *
  generalize w1.heap.size = ob at *
  clear k0 k1 hB1
  go_wp2
  go_loopw [8] (fun i wr => ∃ (j : Nat) (v : Value), j ≤ m ∧ i = .int .i64 j ∧ Hid (WO Y wr ob (N : Int) v (Ch.tk L j))) (fun i _ => m - (RowKit.intOf i).toNat)
  case atStart => exact ⟨0, _, Nat.zero_le _, rfl, hWO⟩
  case round =>
    clear hWO
    obtain ⟨j, lv, hj, rfl, HO⟩ := hrel
    have hbA := Lib.hid (bY.out.trans (HO.out.b.below bY.out.size (fun k hk e => by omega)))
    have k0 := HO.out.b.kept c0.out (by show ¬ w.heap.size = ob; omega)
    have k1 := HO.out.b.kept c1.out (by show ¬ w.heap.size = ob; omega)
    by_cases hlt : j < m
    · have hi5 : (j : Int) < (m : Int) := by omega
      have hi6 : (0 : Int) ≤ (j : Int) := by omega
      have hjL : j < L.length := by have := hm.out; omega
      obtain ⟨y, rfl, hl3⟩ := hL.out j hjL
      have ⟨g0, g1, g2⟩ := hl3.below hbA.out
      have hnx := Ch.tk_next hjL
      have hlen := Lib.hid (Ch.tk_len (L := L) (k := j) (by omega))
      obtain ⟨f, t, mo, hlk⟩ : ∃ f t mo, L.getD j Ch.noLk = ⟨f, t, mo⟩ := ⟨_, _, _, rfl⟩
      rw [hlk] at g0 g1 g2 hnx
      simp only at g0 g1 g2 hnx
      have o1 : wr.cell? ⟨ob, 1, none⟩ = some lv := HO.out.r.cell (i := 1) (by omega)
      have hown := HO.out.o
      have hbs := HO.out.b.size
      have o1A := cell_alloc o1 (Obj.cells #[.int .i64 f, .int .i64 t, .int .i64 mo] 63)
      clear hl3 hlk
      go_wp2_with (first
        | (refine wpList_append_lks rfl (.tmp 47) (.tmp 55) rfl Y.heap.size lv (Ch.tk L j).length (Ch.tk L j) rfl ((hown.alloc _).alloc _) (some ⟨wr.heap.size + 1, 0, none⟩) 1 1 [⟨t, f, mo⟩] rfl rfl ?hlks ?hnn ?c1 ?c2 ?_) | fail)
      case hlks =>
        have h := lks_one (wr.alloc (Obj.cells #[.int .i64 f, .int .i64 t, .int .i64 mo] 63)) t f mo
        simpa using h
      case hnn => exact fun h => by cases h
      case c1 => have := hlen.out; omega
      case c2 => simp; omega
      intro v' w4 hown' hgrow
      obtain ⟨p4, cp4, rfl, _⟩ := owns_slice hown'
      have hb2 : Below wr.heap.size wr ((wr.alloc (Obj.cells #[.int .i64 f, .int .i64 t, .int .i64 mo] 63)).alloc (Obj.cells #[.int .i64 t, .int .i64 f, .int .i64 mo] 63)) := below_alloc (below_alloc (Below.refl _ _) _) _
      obtain ⟨HP, r2⟩ := HO.out.push hb2 hgrow hown'
      have t1 := r2.cell (i := 1) (by omega)
      have tz1 := r2.frozen 1
      simp only [Nat.one_ne_zero, if_false] at t1
      replace HP := Lib.hid HP
      clear hown' hgrow hown r2 hb2 HO hbA o1 o1A g0 g1 g2 k0 k1
      go_wp2
      go_roundw
      case rel => exact ⟨j + 1, _, by omega, by go_num, Lib.hid (by rw [hnx]; exact HP.out)⟩
      case measure => show m - ((j : Int) + 1).toNat < m - (j : Int).toNat; omega
    · obtain rfl : j = m := by omega
      have hi5 : ¬ (j : Int) < (j : Int) := by omega
      obtain ⟨px, cx, hv9, hK⟩ := lks_of_owns HO.out.o
      subst hv9
      have hlen := Ch.tk_len (L := L) (k := j) (by have := hm.out; omega)
      rw [hall.out] at HO hK hlen
      have o0 : wr.cell? ⟨ob, 0, none⟩ = some (.int .i64 (N : Int)) := HO.out.r.cell (i := 0) (by omega)
      have o1 : wr.cell? ⟨ob, 1, none⟩ = some (.slice px (Ch.turned L).length cx) := HO.out.r.cell (i := 1) (by omega)
      rw [hlen] at o1
      have hJ2 : Hid (SB w (N : Int) a j cap L wr) := Lib.hid ⟨k0, k1, hL.out.below hbA.out, hbA.out⟩
      have hX2 : Hid (SX ob (N : Int) px j cx (Ch.turned L) wr) := Lib.hid ⟨o0, o1, hK⟩
      clear HO hbA k0 k1 hK o0 o1 c0 c1 bY hL hlen
      have k0 := hJ2.out.c0
      have k1 := hJ2.out.c1
      have x0 := hX2.out.c0
      have x1 := hX2.out.c1
      go_wp2_with fail
      refine (HBo.out _ hJ2.out).mono ?_
      rintro e w3 ⟨rfl, hb⟩
      have hJ3 := Lib.hid (hJ2.out.below hb)
      have hX3 := Lib.hid (hX2.out.below hb)
      clear hb k0 k1 x0 x1 hJ2 hX2 HBo
      have k0 := hJ3.out.c0
      have k1 := hJ3.out.c1
      have x0 := hX3.out.c0
      have x1 := hX3.out.c1
      go_wp2_with fail
      refine (HBt.out _ _ _ _ hX3.out).mono ?_
      rintro e w4 ⟨rfl, hb⟩
      have hJ4 := Lib.hid (hJ3.out.below hb)
      have hX4 := Lib.hid (hX3.out.below hb)
      clear hb k0 k1 x0 x1 hJ3 hX3 HBt
      have k0 := hJ4.out.c0
      have k1 := hJ4.out.c1
      have x0 := hX4.out.c0
      have x1 := hX4.out.c1
      go_wp2_with fail
      refine (HGr.out _ hJ4.out).mono ?_
      rintro e w5 ⟨hb, h⟩
      obtain ⟨_, ab, fa, _, rfl, hra, hfa⟩ := h.resolve_left (fun h => h.1 rfl)
      have hJ5 := Lib.hid (hJ4.out.below hb)
      have hX5 := Lib.hid (hX4.out.below hb)
      replace hra := Lib.hid hra
      replace hfa := Lib.hid hfa
      clear hb k0 k1 x0 x1 hJ4 hX4 HGr h
      have k0 := hJ5.out.c0
      have k1 := hJ5.out.c1
      have x0 := hX5.out.c0
      have x1 := hX5.out.c1
      go_wp2_with fail
      refine (HLe.out _ _ _ _ hX5.out).mono ?_
      rintro e w6 ⟨hb, h⟩
      obtain ⟨_, bb, fb, _, rfl, hrb, hfb⟩ := h.resolve_left (fun h => h.1 rfl)
      have hJ6 := Lib.hid (hJ5.out.below hb)
      have hX6 := Lib.hid (hX5.out.below hb)
      have hra2 := Lib.hid (Below.row hb hra.out)
      replace hrb := Lib.hid hrb
      replace hfb := Lib.hid hfb
      clear hb k0 k1 x0 x1 hJ5 hX5 HLe h hra
      have k0 := hJ6.out.c0
      have k1 := hJ6.out.c1
      have x0 := hX6.out.c0
      have x1 := hX6.out.c1
      have hNN : ((N : Int) != (N : Int)) = false := by simp
      go_wp2
      clear k0 k1 x0 x1
      go_loopw [18] (fun i wr => ∃ q : Nat, q ≤ N ∧ i = .int .i64 q ∧ Hid (Below w6.heap.size w6 wr)) (fun i _ => N - (RowKit.intOf i).toNat)
      case atStart => exact ⟨0, Nat.zero_le _, rfl, Lib.hid (Below.refl _ _)⟩
      case round =>
        obtain ⟨q, hq, rfl, hB⟩ := hrel
        by_cases hlt2 : q < N
        · have hi7 : (q : Int) < (N : Int) := by omega
          have hi8 : (0 : Int) ≤ (q : Int) := by omega
          have d0 := (Below.row hB.out hra2.out).cell (i := q) hlt2
          have d1 := (Below.row hB.out hrb.out).cell (i := q) hlt2
          rw [hfa.out q hlt2, Ch.getD_neg] at d0
          rw [hfb.out q hlt2] at d1
          have hr := hGr.out q hlt2
          obtain ⟨x, hx⟩ : ∃ x, G.getD q 0 = x := ⟨_, rfl⟩
          rw [hx] at d0 d1 hr
          obtain ⟨hr1, hr2⟩ := hr
          have hne : (-x != -x) = false := by simp
          have hne2 : (-x != IntKind.i64.wrap (-x)) = false := by rw [wrap_ok (by omega) (by omega)]; simp
          have hBd := Lib.hid fun nq => hB.out.trans ((below_drewN (Below.refl wr.heap.size wr) nq).mono hB.out.size)
          clear hx hB
          go_upto_region 18 with fail
          go_quiet (fail)
          replace hBd := Lib.hid (hBd.out nq)
          clear d0 d1
          go_wp2
          go_roundw
          case rel => exact ⟨q + 1, by omega, by go_num, hBd⟩
          case measure => show N - ((q : Int) + 1).toNat < N - (q : Int).toNat; omega
        · obtain rfl : q = N := by omega
          have hi7 : ¬ (q : Int) < (q : Int) := by omega
          have hJ7 := Lib.hid (hJ6.out.below hB.out)
          have hX7 := Lib.hid (hX6.out.below hB.out)
          clear hJ6 hX6 hB hra2 hrb
          have k0 := hJ7.out.c0
          have k1 := hJ7.out.c1
          have x0 := hX7.out.c0
          have x1 := hX7.out.c1
          go_wp2_with fail
          refine (HCl.out _ hJ7.out).mono ?_
          rintro e w8 ⟨cv, rfl, hown, hb⟩
          obtain ⟨p8, c8, rfl, _⟩ := ints_of_own hown
          have hJ8 := Lib.hid (hJ7.out.below hb)
          have hX8 := Lib.hid (hX7.out.below hb)
          clear hb k0 k1 x0 x1 hJ7 hX7 HCl hown
          have k0 := hJ8.out.c0
          have k1 := hJ8.out.c1
          have x0 := hX8.out.c0
          have x1 := hX8.out.c1
          go_wp2_with fail
          refine (HCt.out _ _ _ _ hX8.out).mono ?_
          rintro e w9 ⟨dv, rfl, hown, hb⟩
          obtain ⟨p9, c9, rfl, _⟩ := ints_of_own hown
          rw [← hcl.out]
          have hJ9 := Lib.hid (hJ8.out.below hb)
          have hX9 := Lib.hid (hX8.out.below hb)
          clear hb k0 k1 x0 x1 hJ8 hX8 HCt hown
          have k0 := hJ9.out.c0
          have k1 := hJ9.out.c1
          have x0 := hX9.out.c0
          have x1 := hX9.out.c1
          go_wp2_with fail
          refine (HId.out _ hJ9.out).mono ?_
          rintro e w10 ⟨cv, rfl, hown, hb⟩
          obtain ⟨p10, c10, rfl, hi10, _⟩ := ints_of_own hown
          replace hi10 := Lib.hid hi10
          have hJ10 := Lib.hid (hJ9.out.below hb)
          have hX10 := Lib.hid (hX9.out.below hb)
          clear hb k0 k1 x0 x1 hJ9 hX9 HId hown
          have k0 := hJ10.out.c0
          have k1 := hJ10.out.c1
          have x0 := hX10.out.c0
          have x1 := hX10.out.c1
          go_wp2_with fail
          refine (HIt.out _ _ _ _ hX10.out).mono ?_
          rintro e w11 ⟨dv, rfl, hown, hb⟩
          obtain ⟨p11, c11, rfl, hi11, _⟩ := ints_of_own hown
          replace hi11 := Lib.hid hi11
          have hJ11 := Lib.hid (hJ10.out.below hb)
          have hX11 := Lib.hid (hX10.out.below hb)
          have hi12 := Lib.hid (hi10.out.below hb)
          clear hb k0 k1 x0 x1 hJ10 hX10 HIt hown hi10
          go_wp2_with fail
          refine (HSa.out _).mono ?_
          rintro e w12 ⟨rfl, hb⟩
          have hB := hJ11.out.b.trans (hb.mono hJ11.out.b.size)
          have HSI := sameInts_any p10 p11 c10 c11 (Ch.ints I) (Ch.ints I) (by rw [Ch.ints_len]; have := hi9.out; omega) w12 (hi12.out.below hb) (hi11.out.below hb)
          rw [decide_eq_true rfl, Ch.ints_len] at HSI
          replace HSI := Lib.hid HSI
          clear hb hJ11 hX11 hi12 hi11
          go_wp2_with fail
          refine HSI.out.mono ?_
          rintro e w13 ⟨rfl, hb⟩
          have hB := hB.trans (hb.mono hB.size)
          clear hb HSI
          go_wp2
          go_ret
          exact ⟨rfl, hB⟩
set_option linter.unusedSimpArgs false in
set_option maxRecDepth 100000 in
set_option maxHeartbeats 8000000 in
theorem turned_err (n : Int) (a : Option Addr) (m cap : Nat) (u v : Int) (L : List Ch.Lk) (hm : Hid (L.length = m)) (hm9 : m ≤ 310) (hsm : Hid ((decide (m ≤ 310) && decide (n ≤ 70)) = true)) (k : Nat) (hT : Ch.ET n L k) (hg0 : (Ch.leastW n (Ch.turned L) k).2 ≠ 0) (w : World) (hL : Hid (LksAt w a L)) :
    Calls Try.prog 14 #[sysV n a m cap, .int .i64 u, .int .i64 v] w (LawPost w) := by
  have hn70 : n ≤ 70 := by
    have h := hsm.out
    rw [Bool.and_eq_true, decide_eq_true_eq, decide_eq_true_eq] at h
    exact h.2
  have HSm := Lib.hid fun (W : World) => small_any n a m cap true hsm W
  have HSa := Lib.hid fun (W : World) => sanity_any W
  obtain ⟨c, d, er, hc1, hc2, hcl⟩ := hT.clash
  obtain ⟨hgl1, hgl2⟩ := Ch.great_least (n := n) (L := L) (k := k)
  have hbd := hT.bound u v
  have hop := hT.openE [] [] rfl
  have hid : (if Ch.opn n L [] k = 0 then Ch.idleK n.toNat (Ch.turned L) k L.length else []) = (if Ch.opn n L [] k = 0 then Ch.idleK n.toNat L k L.length else []) := by
    by_cases h : Ch.opn n L [] k = 0
    · rw [if_pos h, if_pos h, hT.idle h _ (Nat.le_refl _)]
    · rw [if_neg h, if_neg h]
  have hi9 : (if Ch.opn n L [] k = 0 then Ch.idleK n.toNat L k L.length else []).length ≤ 310 := by
    split
    · have := Ch.idleK_len n.toNat L k L.length
      have := hm.out
      omega
    · simp
  have HBo := Lib.hid fun (W : World) (h : SB w n a m cap L W) => bound_any n a cap L u v k hT.en.en W h.l
  have HBt := Lib.hid fun (W : World) (xb : Nat) (x : Option Addr) (cx : Nat) (h : SX xb n x m cx (Ch.turned L) W) => bound_any n x cx (Ch.turned L) v u k hT.en2.en W h.l
  have HGr := Lib.hid fun (W : World) (h : SB w n a m cap L W) => greatestW_any n (by omega) a cap L k hT.en2.en (Ch.great_len hT.en2.en) W h.l
  have HLe := Lib.hid fun (W : World) (xb : Nat) (x : Option Addr) (cx : Nat) (h : SX xb n x m cx (Ch.turned L) W) => leastW_any n (by omega) x cx (Ch.turned L) k hT.en2.en (Ch.least_len hT.en2.en) W h.l
  have HCl := Lib.hid fun (W : World) (h : SB w n a m cap L W) => clashE_any n a cap L k hT.en.en c er hc1 W h.l
  have HCt := Lib.hid fun (W : World) (xb : Nat) (x : Option Addr) (cx : Nat) (h : SX xb n x m cx (Ch.turned L) W) => clashE_any n x cx (Ch.turned L) k hT.en2.en d er hc2 W h.l
  have HId := Lib.hid fun (W : World) (h : SB w n a m cap L W) => idle_any n a cap L k hT.en.en (fun ho q _ => (hT.drop ho _).1) W h.l
  have HIt := Lib.hid fun (W : World) (xb : Nat) (x : Option Addr) (cx : Nat) (h : SX xb n x m cx (Ch.turned L) W) => idle_any n x cx (Ch.turned L) k hT.en2.en (fun ho q _ => (hT.drop (by rw [← hop]; exact ho) _).2) W h.l
  rw [hop, Ch.turned_len, hid] at HIt
  rw [hbd, Ch.turned_len] at HBt
  rw [Ch.turned_len] at HLe HCt
  rw [hm.out] at HBo HGr HCl HId HBt HLe HCt HIt hi9
  rw [hgl1, hgl2] at HGr
  obtain ⟨B, be, hbe⟩ : ∃ B be, Ch.bound n L k u v = (B, be) := ⟨_, _, rfl⟩
  rw [hbe] at HBo HBt
  obtain ⟨I, hI⟩ : ∃ I, (if Ch.opn n L [] k = 0 then Ch.idleK n.toNat L k m else []) = I := ⟨_, rfl⟩
  rw [hI] at HId HIt hi9
  obtain ⟨ie, hie⟩ : ∃ ie, Ch.opn n L [] k = ie := ⟨_, rfl⟩
  rw [hie] at HId HIt
  obtain ⟨ge, hge⟩ : ∃ ge, (Ch.leastW n (Ch.turned L) k).2 = ge := ⟨_, rfl⟩
  rw [hge] at HLe HGr hg0
  have heg : (ge != ge) = false := by simp
  have heq : (be != be) = false := by simp
  have heq2 : (B != B) = false := by simp
  have heq3 : (er == er) = true := by simp
  have heq4 : (ie == ie) = true := by simp
  have hall := Ch.tk_all L
  rw [hm.out] at hall
  replace hcl := Lib.hid hcl
  replace hall := Lib.hid hall
  replace hi9 := Lib.hid hi9
  unfold sysV at *
  clear hT hc1 hc2 hgl1 hgl2 hbd hop hid hbe hI hie hge
  go_enter Try.func14, Try.ntmps14
  go_wp2_with fail
  refine (HSm.out _).mono ?_
  rintro e w1 ⟨rfl, hb⟩
  have hB1 := bstep1 (Below.refl _ _) hb
  have k0 : w1.cell? ⟨w.heap.size, 0, none⟩ = some (.int .i64 n) := kept1 (by simp [go_sem]) hb
  have k1 : w1.cell? ⟨w.heap.size, 1, none⟩ = some (.slice a m cap) := kept1 (by simp [go_sem]) hb
  clear hb HSm hsm
  have hwb : w.heap.size < w1.heap.size := block_lt_of_cell k0
  have c0 := Lib.hid (cell_alloc k0 (Obj.cells #[.int .i64 n, .slice none 0 0] 24))
  have c1 := Lib.hid (cell_alloc k1 (Obj.cells #[.int .i64 n, .slice none 0 0] 24))
  have bY := Lib.hid (hB1.alloc hB1.size (Obj.cells #[.int .i64 n, .slice none 0 0] 24))
  have hWO : Hid (WO (w1.alloc (Obj.cells #[.int .i64 n, .slice none 0 0] 24)) (w1.alloc (Obj.cells #[.int .i64 n, .slice none 0 0] 24)) w1.heap.size n (.slice none 0 0) (Ch.tk L 0)) := Lib.hid ⟨sysRow (X := w1) (n := n) (p := none) (m := 0), World.ownsRow_nil _ _ _ _, But.refl _ _, by simp⟩
  have zY : w1.heap.size < (w1.alloc (Obj.cells #[.int .i64 n, .slice none 0 0] 24)).heap.size := by simp
  go_upto_region 4 with fail
  generalize w1.alloc (Obj.cells #[.int .i64 n, .slice none 0 0] 24) = Y at *
  generalize w1.heap.size = ob at *
  clear k0 k1 hB1
  go_wp2
  go_loopw [8] (fun i wr => ∃ (j : Nat) (v : Value), j ≤ m ∧ i = .int .i64 j ∧ Hid (WO Y wr ob n v (Ch.tk L j))) (fun i _ => m - (RowKit.intOf i).toNat)
  case atStart => exact ⟨0, _, Nat.zero_le _, rfl, hWO⟩
  case round =>
    clear hWO
    obtain ⟨j, lv, hj, rfl, HO⟩ := hrel
    have hbA := Lib.hid (bY.out.trans (HO.out.b.below bY.out.size (fun k hk e => by omega)))
    have k0 := HO.out.b.kept c0.out (by show ¬ w.heap.size = ob; omega)
    have k1 := HO.out.b.kept c1.out (by show ¬ w.heap.size = ob; omega)
    by_cases hlt : j < m
    · have hi5 : (j : Int) < (m : Int) := by omega
      have hi6 : (0 : Int) ≤ (j : Int) := by omega
      have hjL : j < L.length := by have := hm.out; omega
      obtain ⟨y, rfl, hl3⟩ := hL.out j hjL
      have ⟨g0, g1, g2⟩ := hl3.below hbA.out
      have hnx := Ch.tk_next hjL
      have hlen := Lib.hid (Ch.tk_len (L := L) (k := j) (by omega))
      obtain ⟨f, t, mo, hlk⟩ : ∃ f t mo, L.getD j Ch.noLk = ⟨f, t, mo⟩ := ⟨_, _, _, rfl⟩
      rw [hlk] at g0 g1 g2 hnx
      simp only at g0 g1 g2 hnx
      have o1 : wr.cell? ⟨ob, 1, none⟩ = some lv := HO.out.r.cell (i := 1) (by omega)
      have hown := HO.out.o
      have hbs := HO.out.b.size
      have o1A := cell_alloc o1 (Obj.cells #[.int .i64 f, .int .i64 t, .int .i64 mo] 63)
      clear hl3 hlk
      go_wp2_with (first
        | (refine wpList_append_lks rfl (.tmp 47) (.tmp 55) rfl Y.heap.size lv (Ch.tk L j).length (Ch.tk L j) rfl ((hown.alloc _).alloc _) (some ⟨wr.heap.size + 1, 0, none⟩) 1 1 [⟨t, f, mo⟩] rfl rfl ?hlks ?hnn ?c1 ?c2 ?_) | fail)
      case hlks =>
        have h := lks_one (wr.alloc (Obj.cells #[.int .i64 f, .int .i64 t, .int .i64 mo] 63)) t f mo
        simpa using h
      case hnn => exact fun h => by cases h
      case c1 => have := hlen.out; omega
      case c2 => simp; omega
      intro v' w4 hown' hgrow
      obtain ⟨p4, cp4, rfl, _⟩ := owns_slice hown'
      have hb2 : Below wr.heap.size wr ((wr.alloc (Obj.cells #[.int .i64 f, .int .i64 t, .int .i64 mo] 63)).alloc (Obj.cells #[.int .i64 t, .int .i64 f, .int .i64 mo] 63)) := below_alloc (below_alloc (Below.refl _ _) _) _
      obtain ⟨HP, r2⟩ := HO.out.push hb2 hgrow hown'
      have t1 := r2.cell (i := 1) (by omega)
      have tz1 := r2.frozen 1
      simp only [Nat.one_ne_zero, if_false] at t1
      replace HP := Lib.hid HP
      clear hown' hgrow hown r2 hb2 HO hbA o1 o1A g0 g1 g2 k0 k1
      go_wp2
      go_roundw
      case rel => exact ⟨j + 1, _, by omega, by go_num, Lib.hid (by rw [hnx]; exact HP.out)⟩
      case measure => show m - ((j : Int) + 1).toNat < m - (j : Int).toNat; omega
    · obtain rfl : j = m := by omega
      have hi5 : ¬ (j : Int) < (j : Int) := by omega
      obtain ⟨px, cx, hv9, hK⟩ := lks_of_owns HO.out.o
      subst hv9
      have hlen := Ch.tk_len (L := L) (k := j) (by have := hm.out; omega)
      rw [hall.out] at HO hK hlen
      have o0 : wr.cell? ⟨ob, 0, none⟩ = some (.int .i64 n) := HO.out.r.cell (i := 0) (by omega)
      have o1 : wr.cell? ⟨ob, 1, none⟩ = some (.slice px (Ch.turned L).length cx) := HO.out.r.cell (i := 1) (by omega)
      rw [hlen] at o1
      have hJ2 : Hid (SB w n a j cap L wr) := Lib.hid ⟨k0, k1, hL.out.below hbA.out, hbA.out⟩
      have hX2 : Hid (SX ob n px j cx (Ch.turned L) wr) := Lib.hid ⟨o0, o1, hK⟩
      clear HO hbA k0 k1 hK o0 o1 c0 c1 bY hL hlen
      have k0 := hJ2.out.c0
      have k1 := hJ2.out.c1
      have x0 := hX2.out.c0
      have x1 := hX2.out.c1
      go_wp2_with fail
      refine (HBo.out _ hJ2.out).mono ?_
      rintro e w3 ⟨rfl, hb⟩
      have hJ3 := Lib.hid (hJ2.out.below hb)
      have hX3 := Lib.hid (hX2.out.below hb)
      clear hb k0 k1 x0 x1 hJ2 hX2 HBo
      have k0 := hJ3.out.c0
      have k1 := hJ3.out.c1
      have x0 := hX3.out.c0
      have x1 := hX3.out.c1
      go_wp2_with fail
      refine (HBt.out _ _ _ _ hX3.out).mono ?_
      rintro e w4 ⟨rfl, hb⟩
      have hJ4 := Lib.hid (hJ3.out.below hb)
      have hX4 := Lib.hid (hX3.out.below hb)
      clear hb k0 k1 x0 x1 hJ3 hX3 HBt
      have k0 := hJ4.out.c0
      have k1 := hJ4.out.c1
      have x0 := hX4.out.c0
      have x1 := hX4.out.c1
      go_wp2_with fail
      refine (HGr.out _ hJ4.out).mono ?_
      rintro e w5 ⟨hb, h⟩
      obtain ⟨_, rfl⟩ := h.resolve_right (fun h => hg0 h.1)
      have hJ5 := Lib.hid (hJ4.out.below hb)
      have hX5 := Lib.hid (hX4.out.below hb)
      clear hb k0 k1 x0 x1 hJ4 hX4 HGr h
      have k0 := hJ5.out.c0
      have k1 := hJ5.out.c1
      have x0 := hX5.out.c0
      have x1 := hX5.out.c1
      go_wp2_with fail
      refine (HLe.out _ _ _ _ hX5.out).mono ?_
      rintro e w6 ⟨hb, h⟩
      obtain ⟨_, rfl⟩ := h.resolve_right (fun h => hg0 h.1)
      have hJ6 := Lib.hid (hJ5.out.below hb)
      have hX6 := Lib.hid (hX5.out.below hb)
      clear hb k0 k1 x0 x1 hJ5 hX5 HLe h
      have k0 := hJ6.out.c0
      have k1 := hJ6.out.c1
      have x0 := hX6.out.c0
      have x1 := hX6.out.c1
      go_wp2
      clear k0 k1 x0 x1
      go_loopw [18] (fun i wr => i = .int .i64 0 ∧ wr = w6) (fun _ _ => 0)
      case atStart => exact ⟨rfl, rfl⟩
      case round =>
        obtain ⟨rfl, rfl⟩ := hrel
        have hi7 : ¬ (0 : Int) < 0 := by omega
        have k0 := hJ6.out.c0
        have k1 := hJ6.out.c1
        have x0 := hX6.out.c0
        have x1 := hX6.out.c1
        go_wp2_with fail
        refine (HCl.out _ hJ6.out).mono ?_
        rintro e w8 ⟨cv, rfl, hown, hb⟩
        obtain ⟨p8, c8, rfl, _⟩ := ints_of_own hown
        have hJ8 := Lib.hid (hJ6.out.below hb)
        have hX8 := Lib.hid (hX6.out.below hb)
        clear hb k0 k1 x0 x1 hJ6 hX6 HCl hown
        have k0 := hJ8.out.c0
        have k1 := hJ8.out.c1
        have x0 := hX8.out.c0
        have x1 := hX8.out.c1
        go_wp2_with fail
        refine (HCt.out _ _ _ _ hX8.out).mono ?_
        rintro e w9 ⟨dv, rfl, hown, hb⟩
        obtain ⟨p9, c9, rfl, _⟩ := ints_of_own hown
        rw [← hcl.out]
        have hJ9 := Lib.hid (hJ8.out.below hb)
        have hX9 := Lib.hid (hX8.out.below hb)
        clear hb k0 k1 x0 x1 hJ8 hX8 HCt hown
        have k0 := hJ9.out.c0
        have k1 := hJ9.out.c1
        have x0 := hX9.out.c0
        have x1 := hX9.out.c1
        go_wp2_with fail
        refine (HId.out _ hJ9.out).mono ?_
        rintro e w10 ⟨cv, rfl, hown, hb⟩
        obtain ⟨p10, c10, rfl, hi10, _⟩ := ints_of_own hown
        replace hi10 := Lib.hid hi10
        have hJ10 := Lib.hid (hJ9.out.below hb)
        have hX10 := Lib.hid (hX9.out.below hb)
        clear hb k0 k1 x0 x1 hJ9 hX9 HId hown
        have k0 := hJ10.out.c0
        have k1 := hJ10.out.c1
        have x0 := hX10.out.c0
        have x1 := hX10.out.c1
        go_wp2_with fail
        refine (HIt.out _ _ _ _ hX10.out).mono ?_
        rintro e w11 ⟨dv, rfl, hown, hb⟩
        obtain ⟨p11, c11, rfl, hi11, _⟩ := ints_of_own hown
        replace hi11 := Lib.hid hi11
        have hJ11 := Lib.hid (hJ10.out.below hb)
        have hX11 := Lib.hid (hX10.out.below hb)
        have hi12 := Lib.hid (hi10.out.below hb)
        clear hb k0 k1 x0 x1 hJ10 hX10 HIt hown hi10
        go_wp2_with fail
        refine (HSa.out _).mono ?_
        rintro e w12 ⟨rfl, hb⟩
        have hB := hJ11.out.b.trans (hb.mono hJ11.out.b.size)
        have HSI := sameInts_any p10 p11 c10 c11 (Ch.ints I) (Ch.ints I) (by rw [Ch.ints_len]; have := hi9.out; omega) w12 (hi12.out.below hb) (hi11.out.below hb)
        rw [decide_eq_true rfl, Ch.ints_len] at HSI
        replace HSI := Lib.hid HSI
        clear hb hJ11 hX11 hi12 hi11
        go_wp2_with fail
        refine HSI.out.mono ?_
        rintro e w13 ⟨rfl, hb⟩
        have hB := hB.trans (hb.mono hB.size)
        clear hb HSI
        go_wp2
        go_ret
        exact ⟨rfl, hB⟩
set_option linter.unusedSimpArgs false in
set_option maxRecDepth 100000 in
set_option maxHeartbeats 8000000 in
theorem turned_other (n : Int) (a : Option Addr) (m cap : Nat) (u v : Int) (hsm : Hid ((decide (m ≤ 310) && decide (n ≤ 70)) = false)) (w : World) :
    Calls Try.prog 14 #[sysV n a m cap, .int .i64 u, .int .i64 v] w (LawPost w) := by
  have HSa := Lib.hid fun (W : World) => sanity_any W
  have HSm := Lib.hid fun (W : World) => small_any n a m cap false hsm W
  clear hsm
  unfold sysV at *
  go_enter Try.func14, Try.ntmps14
  go_wp2_with fail
  refine (HSm.out _).mono ?_
  rintro e w1 ⟨rfl, hb⟩
  have hB1 := bstep1 (Below.refl _ _) hb
  clear hb HSm
  go_wp2_with fail
  refine (HSa.out _).mono ?_
  rintro e w4 ⟨rfl, hb⟩
  have hB := hB1.trans (hb.mono hB1.size)
  clear hb hB1
  go_wp2
  go_ret
  exact ⟨rfl, hB⟩
/-- the law -/
theorem chainTurned_true (w : World) (n : Int) (a : Option Addr) (m cap : Nat) (_ : I64 n) (_ : a = none → cap = 0) (_ : m ≤ maxLen) (L : List Ch.Lk) (hm : L.length = m) (hL : LksAt w a L) (_ : ∀ i, i < m → I64l (L.getD i Ch.noLk)) (u : Int) (_ : I64 u) (v : Int) (_ : I64 v) :
    Calls Try.prog 14 #[sysV n a m cap, .int .i64 u, .int .i64 v] w (LawPost w) := by
  obtain ⟨K, hT⟩ := Ch.et_ex n L
  cases h : (decide (m ≤ 310) && decide (n ≤ 70))
  · exact turned_other n a m cap u v (Lib.hid h) w
  · have h9 : m ≤ 310 := by
      rw [Bool.and_eq_true, decide_eq_true_eq] at h
      exact h.1
    by_cases hg : (Ch.leastW n (Ch.turned L) K).2 = 0
    · exact turned_ok n a m cap u v L (Lib.hid hm) h9 (Lib.hid h) K hT hg w (Lib.hid hL)
    · exact turned_err n a m cap u v L (Lib.hid hm) h9 (Lib.hid h) K hT hg w (Lib.hid hL)
end Go.Proofs.Ytpddjofmiakpbaa
