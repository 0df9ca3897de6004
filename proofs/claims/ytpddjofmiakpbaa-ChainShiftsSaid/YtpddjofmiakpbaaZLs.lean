/- The law ChainShifts, walked. -/
import Derived.Test.YtpddjofmiakpbaaZUl
import Derived.Test.YtpddjofmiakpbaaZLq
import Derived.Test.YtpddjofmiakpbaaZRc
import Derived.Test.YtpddjofmiakpbaaZ06
import Derived.Test.YtpddjofmiakpbaaZWo
import Derived.BigQuiet
set_option linter.unusedSimpArgs false
set_option linter.unusedVariables false
namespace Go.Proofs.Ytpddjofmiakpbaa
open Go.RowKit

theorem shl_keep {w W W' : World} {cv : Value} {p q : Addr} {x y : Value} (hS : W.cell? p = some x ∧ W.cell? q = some y) (hg : W.grownBy W' cv.ownBlock) (hf : ∀ g, cv.ownBlock = some g → w.heap.size ≤ g) (hp : p.block < w.heap.size) (hq : q.block < w.heap.size) : W'.cell? p = some x ∧ W'.cell? q = some y :=
  ⟨(World.cell?_of_block (hg.block _ (block_lt_of_cell hS.1) (fun e => by have := hf _ e.symm; omega))).trans hS.1, (World.cell?_of_block (hg.block _ (block_lt_of_cell hS.2) (fun e => by have := hf _ e.symm; omega))).trans hS.2⟩

theorem own_lt {W : World} {base n size : Nat} {e : TypeId} {v : Value} {xs : List Value} (h : W.ownsRow base e size v n xs) {g : Nat} (hg : v.ownBlock = some g) : g < W.heap.size := by
  rcases h.2 with ⟨rfl, _⟩ | ⟨g', cap, cur, rfl, _, hgb, _⟩
  · cases hg
  · obtain rfl : g' = g := by simpa [Value.ownBlock] using hg
    exact (Array.getElem?_eq_some_iff.1 hgb).1
theorem cell_near {W W1 : World} {v : Value} {p : Addr} {x : Value} (hg : W.grownBy W1 v.ownBlock) (hne : v.ownBlock ≠ some p.block) (h : W.cell? p = some x) : W1.cell? p = some x :=
  (World.cell?_of_block (hg.block _ (block_lt_of_cell h) (fun e => hne e.symm))).trans h
theorem ints_of_ownI {W : World} {B : Nat} {v : Value} {l : List Int} (h : W.ownsRow B 3 1 v l.length (l.map iV)) : ∃ p cp, v = .slice p l.length cp ∧ IntsAt W p l := by
  rcases h.2 with ⟨hv, h0⟩ | ⟨g, cap, cur, hv, _, hgb, _, _, _, ht⟩
  · exact ⟨none, 0, by rw [hv, h0], fun k hk => by omega⟩
  · refine ⟨_, cap, hv, fun k hk => ⟨_, rfl, ?_⟩⟩
    have e : (⟨g, 0, none⟩ : Addr).add k = ⟨g, k, none⟩ := by unfold Addr.add; split <;> simp_all
    have hu : (l.map iV)[k]? = some (.int .i64 (l.getD k 0)) := by
      rw [List.getElem?_map, List.getD, List.getElem?_eq_getElem hk]; rfl
    rw [← ht, List.getElem?_take_of_lt (by omega), Array.getElem?_toList] at hu
    rw [e]
    simp [World.cell?, hgb]
    exact hu

/-- by how much a node is moved -/
def mvP (bs : List Int) (i : Nat) : Int := if i = 0 then 0 else bs.getD i 0
/-- the moved numbers -/
def mvY (bs xs : List Int) (j : Nat) : List Int := (List.range j).map fun i => xs.getD i 0 + mvP bs i
theorem mvY_next {bs xs : List Int} {j : Nat} : mvY bs xs (j + 1) = mvY bs xs j ++ [xs.getD j 0 + mvP bs j] := by
  unfold mvY
  rw [List.range_succ, List.map_append]
  rfl
theorem mvY_len (bs xs : List Int) (j : Nat) : (mvY bs xs j).length = j := by simp [mvY]
theorem mvY_at {bs xs : List Int} {j i : Nat} (h : i < j) : (mvY bs xs j).getD i 0 = xs.getD i 0 + mvP bs i := by
  unfold mvY
  rw [List.getD, List.getElem?_map, List.getElem?_range h]; rfl

set_option linter.unusedSimpArgs false in
set_option maxRecDepth 100000 in
set_option maxHeartbeats 8000000 in
theorem shifts_walk (n : Int) (a b d : Option Addr) (m cap p q c1 c2 : Nat) (u v : Int) (L : List Ch.Lk) (bs xs : List Int) (hm : Hid (L.length = m)) (hp : Hid (bs.length = p)) (hq : Hid (xs.length = q)) (hp9 : p ≤ 70) (hq9 : q ≤ 70) (hpn : n ≤ (p : Int)) (hsm : Hid ((decide (m ≤ 310) && decide (n ≤ 70)) = true)) (hck : (Ch.check n L).1 = 0) (w : World) (hL : Hid (LksAt w a L)) (hx : Hid (IntsAt w b bs)) (hy : Hid (IntsAt w d xs)) :
    Calls Try.prog 13 #[sysV n a m cap, .slice b p c1, .int .i64 u, .int .i64 v, .slice d q c2] w (LawPost w) := by
  have HSm := Lib.hid fun (W : World) => small_any n a m cap true hsm W
  have HSa := Lib.hid fun (W : World) => sanity_any W
  obtain ⟨n1, n2, m3, hokk⟩ := Ch.check_ok hck
  have hm3 : m ≤ 300 := by have := hm.out; omega
  have HEr := Lib.hid fun (W : World) (h : LJ w n a b d m cap L bs xs W) => rerror_any n a cap L W h.l
  rw [hck, hm.out] at HEr
  obtain ⟨N, rfl⟩ : ∃ N : Nat, n = (N : Int) := ⟨n.toNat, by omega⟩
  have hN1 : 1 ≤ N := by omega
  have hNp : N ≤ p := by omega
  have HSh := fun hmb hPb => Ch.sh_of (P := mvP bs) hck hmb hPb
  rw [Int.toNat_natCast, hm.out] at HSh
  replace HSh := Lib.hid HSh
  have g1 : ¬ (N : Int) < 1 := by omega
  have g2 : ¬ (60 : Int) < (N : Int) := by omega
  have g3 : ¬ (p : Int) < (N : Int) := by omega
  have g4 : ¬ (70 : Int) < (p : Int) := by omega
  have g5 : ¬ (70 : Int) < (q : Int) := by omega
  have hmk := run_make_row' (P := Try.prog) 32 3 (.int .i64 0) 8 Try.underlying32 infoInt rfl .i64 .i64 N (by omega) (by omega)
  replace hokk := Lib.hid hokk
  unfold sysV at *
  clear hck n1 n2
  go_enter Try.func13, Try.ntmps13
  go_wp2_with fail
  refine (HSm.out _).mono ?_
  rintro e w1 ⟨rfl, hb⟩
  have hB1 := bstep1 (Below.refl _ _) hb
  have hJ := Lib.hid (LJ.mk (w := w) (n := (N : Int)) (a := a) (m := m) (cap := cap) (W := w1) (kept1 (by simp [go_sem]) hb) (kept1 (by simp [go_sem]) hb) (hL.out.below hB1) (hx.out.below hB1) (hy.out.below hB1) hB1)
  clear hb hB1 HSm hsm
  have k0 := hJ.out.c0
  have k1 := hJ.out.c1
  go_wp2_with fail
  refine (HEr.out _ hJ.out).mono ?_
  rintro e w2 ⟨rfl, hb⟩
  have hJ2 := Lib.hid (hJ.out.below hb)
  clear hb hJ HEr k0 k1
  have k0 := hJ2.out.c0
  have k1 := hJ2.out.c1
  have hR : Hid ((w2.alloc (Obj.cells (madeCells #[.int .i64 0] N) 3)).rowIs w2.heap.size 3 N (fun i => .int .i64 (if i < 1 then mvP bs i else 0))) := Lib.hid ((World.rowIs_made w2 _ _ _).congr (fun i hi => by
    by_cases e : i < 1
    · rw [if_pos e]
      obtain rfl : i = 0 := by omega
      rfl
    · rw [if_neg e]))
  have hBm := Lib.hid ((Below.refl w2.heap.size w2).alloc (Nat.le_refl _) (Obj.cells (madeCells #[.int .i64 0] N) 3))
  go_upto_region 4 with fail
  generalize w2.alloc (Obj.cells (madeCells #[.int .i64 0] N) 3) = Y0 at *
  generalize hmb : w2.heap.size = mb at *
  replace hmb := Lib.hid hmb
  clear k0 k1 hmk
  go_wp2
  go_loopw [12] (fun i wr => ∃ k : Nat, 1 ≤ k ∧ k ≤ N ∧ i = .int .i64 k ∧ Hid (wr.rowIs mb 3 N (fun i => .int .i64 (if i < k then mvP bs i else 0))) ∧ Hid (Below mb w2 wr) ∧ Hid (∀ i, i < k → -1099511627776 ≤ mvP bs i ∧ mvP bs i ≤ 1099511627776)) (fun i _ => N - (RowKit.intOf i).toNat)
  case atStart => exact ⟨1, Nat.le_refl _, hN1, rfl, hR, hBm, Lib.hid fun i hi => by
    obtain rfl : i = 0 := by omega
    unfold mvP
    rw [if_pos rfl]
    decide⟩
  case round =>
    clear hR hBm
    obtain ⟨k, hk1, hk, rfl, hR, hBm, hPr⟩ := hrel
    have hBm' : Below w2.heap.size w2 wr := by rw [hmb.out]; exact hBm.out
    have k0 := kept1 hJ2.out.c0 hBm'
    have k1 := kept1 hJ2.out.c1 hBm'
    have hBw : Below w.heap.size w wr := hJ2.out.b.trans (hBm'.mono hJ2.out.b.size)
    by_cases hlt : k < N
    · have hi5 : (k : Int) < (N : Int) := by omega
      have hi6 : (0 : Int) ≤ (k : Int) := by omega
      have hi7 : (k : Int) < (p : Int) := by omega
      obtain ⟨x, rfl, hcx⟩ := hJ2.out.x k (by have := hp.out; omega)
      have cx := kept1 hcx hBm'
      have hPk : mvP bs k = bs.getD k 0 := by unfold mvP; rw [if_neg (by omega)]
      obtain ⟨z, hz⟩ : ∃ z, bs.getD k 0 = z := ⟨_, rfl⟩
      rw [hz] at cx hPk
      clear hcx hz
      by_cases c1' : z < -1099511627776
      · clear hR hPr hPk hBm'
        go_wp2_with fail
        refine (HSa.out _).mono ?_
        rintro e w99 ⟨rfl, hb⟩
        have hB := (hBw).trans (hb.mono (hBw).size)
        clear hb k0 k1 cx hBm hBw
        go_wp2
        go_ret
        exact ⟨rfl, hB⟩
      · by_cases c2' : 1099511627776 < z
        · clear hR hPr hPk hBm'
          go_wp2_with fail
          refine (HSa.out _).mono ?_
          rintro e w99 ⟨rfl, hb⟩
          have hB := (hBw).trans (hb.mono (hBw).size)
          clear hb k0 k1 cx hBm hBw
          go_wp2
          go_ret
          exact ⟨rfl, hB⟩
        · have d0 := hR.out.cell (i := k) hlt
          have z0 := hR.out.frozen k
          have hR2 : Hid ((wr.setCell ⟨mb, k, none⟩ (.int .i64 z)).rowIs mb 3 N (fun i => .int .i64 (if i < k + 1 then mvP bs i else 0))) := Lib.hid ((hR.out.set k _).congr (fun i hi => by
            by_cases e : i = k
            · subst e; rw [if_pos rfl, if_pos (by omega), hPk]
            · rw [if_neg e]
              by_cases e2 : i < k
              · rw [if_pos e2, if_pos (by omega)]
              · rw [if_neg e2, if_neg (by omega)]))
          have hBm2 : Hid (Below mb w2 (wr.setCell ⟨mb, k, none⟩ (.int .i64 z))) := Lib.hid (hBm.out.setCell (p := ⟨mb, k, none⟩) (Nat.le_refl _) _)
          have hPr2 : Hid (∀ i, i < k + 1 → -1099511627776 ≤ mvP bs i ∧ mvP bs i ≤ 1099511627776) := Lib.hid fun i hi => by
            by_cases e : i = k
            · subst e; rw [hPk]; omega
            · exact hPr.out i (by omega)
          clear hR hPr hPk hBm hBm' hBw
          go_wp2
          go_roundw
          case rel => exact ⟨k + 1, by omega, by omega, by go_num, hR2, hBm2, hPr2⟩
          case measure => show N - ((k : Int) + 1).toNat < N - (k : Int).toNat; omega
    · obtain rfl : k = N := by omega
      have hi5 : ¬ (k : Int) < (k : Int) := by omega
      have hJ3 := Lib.hid ((hJ2.out.below hBm').below ((Below.refl wr.heap.size wr).alloc (Nat.le_refl _) (Obj.cells #[.int .i64 (k : Int), .slice none 0 0] 24)))
      have hM3 : Hid ((wr.alloc (Obj.cells #[.int .i64 (k : Int), .slice none 0 0] 24)).rowIs mb 3 k (fun i => .int .i64 (mvP bs i))) := Lib.hid ((hR.out.alloc _).congr (fun i hi => by rw [if_pos hi]))
      have hWO : Hid (WO (wr.alloc (Obj.cells #[.int .i64 (k : Int), .slice none 0 0] 24)) (wr.alloc (Obj.cells #[.int .i64 (k : Int), .slice none 0 0] 24)) wr.heap.size (k : Int) (.slice none 0 0) (Ch.shf L (mvP bs) 0)) := Lib.hid ⟨sysRow (X := wr) (n := (k : Int)) (p := none) (m := 0), World.ownsRow_nil _ _ _ _, But.refl _ _, by simp⟩
      have hmo : mb < wr.heap.size := hR.out.lt
      have hwo : w.heap.size < wr.heap.size := block_lt_of_cell k0
      clear hR hBm hBm' hBw
      go_upto_region 11 with fail
      clear k0 k1
      generalize wr.alloc (Obj.cells #[.int .i64 (k : Int), .slice none 0 0] 24) = Y at *
      generalize wr.heap.size = ob at *
      go_wp2
      go_loopw [14] (fun i wr => ∃ (j : Nat) (lv : Value), j ≤ m ∧ i = .int .i64 j ∧ Hid (WO Y wr ob (k : Int) lv (Ch.shf L (mvP bs) j)) ∧ Hid (∀ i, i < j → -1099511627776 ≤ (L.getD i Ch.noLk).m ∧ (L.getD i Ch.noLk).m ≤ 1099511627776)) (fun i _ => m - (RowKit.intOf i).toNat)
      case atStart => exact ⟨0, _, Nat.zero_le _, rfl, hWO, Lib.hid fun i hi => by omega⟩
      case round =>
        clear hWO
        obtain ⟨j, lv, hj, rfl, HO, hLr⟩ := hrel
        have hbA := Lib.hid (hJ3.out.b.trans (HO.out.b.below hJ3.out.b.size (fun k hk e => by omega)))
        have k0 := HO.out.b.kept hJ3.out.c0 (by show ¬ w.heap.size = ob; omega)
        have k1 := HO.out.b.kept hJ3.out.c1 (by show ¬ w.heap.size = ob; omega)
        by_cases hlt : j < m
        · have hi7 : (j : Int) < (m : Int) := by omega
          have hi8 : (0 : Int) ≤ (j : Int) := by omega
          have hjL : j < L.length := by have := hm.out; omega
          obtain ⟨y, rfl, hl3⟩ := hL.out j hjL
          have ⟨q0, q1, q2⟩ := hl3.below hbA.out
          have hnx := Ch.shf_next (L := L) (P := mvP bs) (j := j)
          have hokj := Ch.okLk_spec (hokk.out j hjL)
          obtain ⟨f, t, mo, hlk⟩ : ∃ f t mo, L.getD j Ch.noLk = ⟨f, t, mo⟩ := ⟨_, _, _, rfl⟩
          rw [hlk] at q0 q1 q2 hnx hokj
          simp only at q0 q1 q2 hnx hokj
          obtain ⟨f0, f1, t0, t1, _⟩ := hokj
          obtain ⟨ff, rfl⟩ : ∃ i : Nat, f = (i : Int) := ⟨f.toNat, by omega⟩
          obtain ⟨tt, rfl⟩ : ∃ i : Nat, t = (i : Int) := ⟨t.toNat, by omega⟩
          simp only [Int.toNat_natCast] at hnx
          have hff : ff < k := by omega
          have htt : tt < k := by omega
          have hrowM := HO.out.b.row hM3.out (by omega)
          have mt := hrowM.cell (i := tt) htt
          have mf := hrowM.cell (i := ff) hff
          obtain ⟨pt1, pt2⟩ := hPr.out tt htt
          obtain ⟨pf1, pf2⟩ := hPr.out ff hff
          obtain ⟨pt, hpt⟩ : ∃ x, mvP bs tt = x := ⟨_, rfl⟩
          obtain ⟨pf, hpf⟩ : ∃ x, mvP bs ff = x := ⟨_, rfl⟩
          rw [hpt] at mt hnx pt1 pt2
          rw [hpf] at mf hnx pf1 pf2
          have o1 : wr.cell? ⟨ob, 1, none⟩ = some lv := HO.out.r.cell (i := 1) (by omega)
          have hbs := HO.out.b.size
          have hmr : Hid ((L.getD j Ch.noLk).m = mo) := Lib.hid (by rw [hlk])
          have i1 : (tt : Int) < (k : Int) := by omega
          have i2 : (ff : Int) < (k : Int) := by omega
          clear hl3 hlk hrowM hpt hpf
          by_cases c1' : mo < -1099511627776
          · have hB9 := hbA.out.trans (((Below.refl wr.heap.size wr).alloc (Nat.le_refl _) (Obj.cells #[.int .i64 (ff : Int), .int .i64 (tt : Int), .int .i64 mo] 63)).mono hbA.out.size)
            clear hnx HO hbA hLr
            go_wp2_with fail
            refine (HSa.out _).mono ?_
            rintro e w99 ⟨rfl, hb⟩
            have hB := (hB9).trans (hb.mono (hB9).size)
            clear hb k0 k1 q0 q1 q2 mt mf o1 hB9
            go_wp2
            go_ret
            exact ⟨rfl, hB⟩
          · by_cases c2' : 1099511627776 < mo
            · have hB9 := hbA.out.trans (((Below.refl wr.heap.size wr).alloc (Nat.le_refl _) (Obj.cells #[.int .i64 (ff : Int), .int .i64 (tt : Int), .int .i64 mo] 63)).mono hbA.out.size)
              clear hnx HO hbA hLr
              go_wp2_with fail
              refine (HSa.out _).mono ?_
              rintro e w99 ⟨rfl, hb⟩
              have hB := (hB9).trans (hb.mono (hB9).size)
              clear hb k0 k1 q0 q1 q2 mt mf o1 hB9
              go_wp2
              go_ret
              exact ⟨rfl, hB⟩
            · have hoZ := Lib.hid (HO.out.o.alloc (Obj.cells #[.int .i64 (ff : Int), .int .i64 (tt : Int), .int .i64 mo] 63))
              have hZ := Lib.hid ((Below.refl wr.heap.size wr).alloc (Nat.le_refl _) (Obj.cells #[.int .i64 (ff : Int), .int .i64 (tt : Int), .int .i64 mo] 63))
              have e1 := cell_alloc o1 (Obj.cells #[.int .i64 (ff : Int), .int .i64 (tt : Int), .int .i64 mo] 63)
              have e2 : (wr.alloc (Obj.cells #[.int .i64 (ff : Int), .int .i64 (tt : Int), .int .i64 mo] 63)).cell? ⟨wr.heap.size, 0, none⟩ = some (.int .i64 (ff : Int)) := by simp [go_sem]
              have e3 : (wr.alloc (Obj.cells #[.int .i64 (ff : Int), .int .i64 (tt : Int), .int .i64 mo] 63)).cell? ⟨wr.heap.size, 1, none⟩ = some (.int .i64 (tt : Int)) := by simp [go_sem]
              have e4 : (wr.alloc (Obj.cells #[.int .i64 (ff : Int), .int .i64 (tt : Int), .int .i64 mo] 63)).cell? ⟨wr.heap.size, 2, none⟩ = some (.int .i64 mo) := by simp [go_sem]
              have e5 := cell_alloc mt (Obj.cells #[.int .i64 (ff : Int), .int .i64 (tt : Int), .int .i64 mo] 63)
              have e6 := cell_alloc mf (Obj.cells #[.int .i64 (ff : Int), .int .i64 (tt : Int), .int .i64 mo] 63)
              have hw1 : IntKind.i64.wrap (mo + pt) = mo + pt := wrap_ok (by omega) (by omega)
              have hw2 : IntKind.i64.wrap (mo + pt - pf) = mo + pt - pf := wrap_ok (by omega) (by omega)
              go_upto_region 17 with fail
              have S0 : (wr.alloc (Obj.cells #[.int .i64 (ff : Int), .int .i64 (tt : Int), .int .i64 mo] 63)).drew.cell? ⟨ob, 1, none⟩ = some lv ∧ (wr.alloc (Obj.cells #[.int .i64 (ff : Int), .int .i64 (tt : Int), .int .i64 mo] 63)).drew.cell? ⟨wr.heap.size, 0, none⟩ = some (.int .i64 (ff : Int)) ∧ (wr.alloc (Obj.cells #[.int .i64 (ff : Int), .int .i64 (tt : Int), .int .i64 mo] 63)).drew.cell? ⟨wr.heap.size, 1, none⟩ = some (.int .i64 (tt : Int)) ∧ (wr.alloc (Obj.cells #[.int .i64 (ff : Int), .int .i64 (tt : Int), .int .i64 mo] 63)).drew.cell? ⟨wr.heap.size, 2, none⟩ = some (.int .i64 mo) ∧ (wr.alloc (Obj.cells #[.int .i64 (ff : Int), .int .i64 (tt : Int), .int .i64 mo] 63)).drew.cell? ⟨mb, tt, none⟩ = some (.int .i64 pt) ∧ (wr.alloc (Obj.cells #[.int .i64 (ff : Int), .int .i64 (tt : Int), .int .i64 mo] 63)).drew.cell? ⟨mb, ff, none⟩ = some (.int .i64 pf) := ⟨e1, e2, e3, e4, e5, e6⟩
              clear e1 e2 e3 e4 e5 e6 k0 k1 q0 q1 q2 mt mf o1
              generalize wr.alloc (Obj.cells #[.int .i64 (ff : Int), .int .i64 (tt : Int), .int .i64 mo] 63) = Z at *
              refine region_head_held 23 (fun w' => w'.cell? ⟨ob, 1, none⟩ = some lv ∧ w'.cell? ⟨wr.heap.size, 0, none⟩ = some (.int .i64 (ff : Int)) ∧ w'.cell? ⟨wr.heap.size, 1, none⟩ = some (.int .i64 (tt : Int)) ∧ w'.cell? ⟨wr.heap.size, 2, none⟩ = some (.int .i64 mo) ∧ w'.cell? ⟨mb, tt, none⟩ = some (.int .i64 pt) ∧ w'.cell? ⟨mb, ff, none⟩ = some (.int .i64 pf)) (by kernel_rfl) (by kernel_rfl) S0 (fun hHeld => ?_)
              simp only [List.take_succ_cons, List.take_zero, List.drop_succ_cons, List.drop_zero]
              refine wpAnyH_take (i := 0) (v := ?_) rfl (by kernel_rfl) (by kernel_rfl) (by kernel_rfl) (fun _ _ _ h => h) (Or.inl ⟨by rfl, ?_⟩) (by assumption) ?_
              rotate_left 1
              · (intro w hSw; (try dsimp only at hSw); go_simp; all_goals with_reducible rfl)
              try simp only [Act.put, List.setIfInBounds_toArray, List.set_cons_zero, List.set_cons_succ]
              refine wpAnyH_take (i := 1) (v := ?_) rfl (by kernel_rfl) (by kernel_rfl) (by kernel_rfl) (fun _ _ _ h => h) (Or.inl ⟨by rfl, ?_⟩) (by assumption) ?_
              rotate_left 1
              · (intro w hSw; (try dsimp only at hSw); go_simp; all_goals with_reducible rfl)
              try simp only [Act.put, List.setIfInBounds_toArray, List.set_cons_zero, List.set_cons_succ]
              refine wpAnyH_take (i := 2) (v := ?_) rfl (by kernel_rfl) (by kernel_rfl) (by kernel_rfl) (fun _ _ _ h => h) (Or.inl ⟨by rfl, ?_⟩) (by assumption) ?_
              rotate_left 1
              · (intro w hSw; (try dsimp only at hSw); go_simp; all_goals with_reducible rfl)
              try simp only [Act.put, List.setIfInBounds_toArray, List.set_cons_zero, List.set_cons_succ]
              refine wpAnyH_take (i := 3) (v := ?_) rfl (by kernel_rfl) (by kernel_rfl) (by kernel_rfl) (fun _ _ _ h => h) (Or.inl ⟨by rfl, ?_⟩) (by assumption) ?_
              rotate_left 1
              · (intro w hSw; (try dsimp only at hSw); go_simp; all_goals with_reducible rfl)
              try simp only [Act.put, List.setIfInBounds_toArray, List.set_cons_zero, List.set_cons_succ]
              refine wpAnyH_take (i := 4) (v := ?_) rfl (by kernel_rfl) (by kernel_rfl) (by kernel_rfl) (fun _ _ _ h => h) (Or.inl ⟨by rfl, ?_⟩) (by assumption) ?_
              rotate_left 1
              · (intro w hSw; (try dsimp only at hSw); go_simp; all_goals with_reducible rfl)
              try simp only [Act.put, List.setIfInBounds_toArray, List.set_cons_zero, List.set_cons_succ]
              refine wpAnyH_take (i := 5) (v := ?_) rfl (by kernel_rfl) (by kernel_rfl) (by kernel_rfl) (fun _ _ _ h => h) (Or.inl ⟨by rfl, ?_⟩) (by assumption) ?_
              rotate_left 1
              · (intro w hSw; (try dsimp only at hSw); go_simp; all_goals with_reducible rfl)
              try simp only [Act.put, List.setIfInBounds_toArray, List.set_cons_zero, List.set_cons_succ]
              refine wpAnyH_take (i := 6) (v := ?_) rfl (by kernel_rfl) (by kernel_rfl) (by kernel_rfl) (fun _ _ _ h => h) (Or.inl ⟨by rfl, ?_⟩) (by assumption) ?_
              rotate_left 1
              · (intro w hSw; (try dsimp only at hSw); go_simp; all_goals with_reducible rfl)
              try simp only [Act.put, List.setIfInBounds_toArray, List.set_cons_zero, List.set_cons_succ]
              refine wpAnyH_take (i := 7) (v := ?_) rfl (by kernel_rfl) (by kernel_rfl) (by kernel_rfl) (fun _ _ _ h => h) (Or.inl ⟨by rfl, ?_⟩) (by assumption) ?_
              rotate_left 1
              · (intro w hSw; (try dsimp only at hSw); go_simp; all_goals with_reducible rfl)
              try simp only [Act.put, List.setIfInBounds_toArray, List.set_cons_zero, List.set_cons_succ]
              refine wpAnyH_take (i := 8) (v := ?_) rfl (by kernel_rfl) (by kernel_rfl) (by kernel_rfl) (fun _ _ _ h => h) (Or.inl ⟨by rfl, ?_⟩) (by assumption) ?_
              rotate_left 1
              · (intro w hSw; (try dsimp only at hSw); go_simp; all_goals with_reducible rfl)
              try simp only [Act.put, List.setIfInBounds_toArray, List.set_cons_zero, List.set_cons_succ]
              refine wpAnyH_take (i := 9) (v := ?_) rfl (by kernel_rfl) (by kernel_rfl) (by kernel_rfl) (fun _ _ _ h => h) (Or.inl ⟨by rfl, ?_⟩) (by assumption) ?_
              rotate_left 1
              · (intro w hSw; (try dsimp only at hSw); go_simp; all_goals with_reducible rfl)
              try simp only [Act.put, List.setIfInBounds_toArray, List.set_cons_zero, List.set_cons_succ]
              refine wpAnyH_take (i := 10) (v := ?_) rfl (by kernel_rfl) (by kernel_rfl) (by kernel_rfl) (fun _ _ _ h => h) (Or.inl ⟨by rfl, ?_⟩) (by assumption) ?_
              rotate_left 1
              · (intro w hSw; (try dsimp only at hSw); go_simp; all_goals with_reducible rfl)
              try simp only [Act.put, List.setIfInBounds_toArray, List.set_cons_zero, List.set_cons_succ]
              refine wpAnyH_take (i := 11) (v := ?_) rfl (by kernel_rfl) (by kernel_rfl) (by kernel_rfl) (fun _ _ _ h => h) (Or.inl ⟨by rfl, ?_⟩) (by assumption) ?_
              rotate_left 1
              · (intro w hSw; (try dsimp only at hSw); go_simp; all_goals with_reducible rfl)
              try simp only [Act.put, List.setIfInBounds_toArray, List.set_cons_zero, List.set_cons_succ]
              refine wpAnyH_take (i := 12) (v := ?_) rfl (by kernel_rfl) (by kernel_rfl) (by kernel_rfl) (fun _ _ _ h => h) (Or.inl ⟨by rfl, ?_⟩) (by assumption) ?_
              rotate_left 1
              · (intro w hSw; (try dsimp only at hSw); go_simp; all_goals with_reducible rfl)
              try simp only [Act.put, List.setIfInBounds_toArray, List.set_cons_zero, List.set_cons_succ]
              refine wpAnyH_take (i := 13) (v := ?_) rfl (by kernel_rfl) (by kernel_rfl) (by kernel_rfl) (fun _ _ _ h => h) (Or.inl ⟨by rfl, ?_⟩) (by assumption) ?_
              rotate_left 1
              · (intro w hSw; (try dsimp only at hSw); go_simp; all_goals with_reducible rfl)
              try simp only [Act.put, List.setIfInBounds_toArray, List.set_cons_zero, List.set_cons_succ]
              refine wpAnyH_take (i := 14) (v := ?_) rfl (by kernel_rfl) (by kernel_rfl) (by kernel_rfl) (fun _ _ _ h => h) (Or.inl ⟨by rfl, ?_⟩) (by assumption) ?_
              rotate_left 1
              · (intro w hSw; (try dsimp only at hSw); go_simp; all_goals with_reducible rfl)
              try simp only [Act.put, List.setIfInBounds_toArray, List.set_cons_zero, List.set_cons_succ]
              refine wpAnyH_take (i := 15) (v := ?_) rfl (by kernel_rfl) (by kernel_rfl) (by kernel_rfl) (fun _ _ _ h => h) (Or.inl ⟨by rfl, ?_⟩) (by assumption) ?_
              rotate_left 1
              · (intro w hSw; (try dsimp only at hSw); go_simp; all_goals with_reducible rfl)
              try simp only [Act.put, List.setIfInBounds_toArray, List.set_cons_zero, List.set_cons_succ]
              refine wpAnyH_take (i := 16) (v := ?_) rfl (by kernel_rfl) (by kernel_rfl) (by kernel_rfl) (fun _ _ _ h => h) (Or.inl ⟨by rfl, ?_⟩) (by assumption) ?_
              rotate_left 1
              · (intro w hSw; (try dsimp only at hSw); go_simp; all_goals with_reducible rfl)
              try simp only [Act.put, List.setIfInBounds_toArray, List.set_cons_zero, List.set_cons_succ]
              refine wpAnyH_take (i := 17) (v := ?_) rfl (by kernel_rfl) (by kernel_rfl) (by kernel_rfl) (fun _ _ _ h => h) (Or.inl ⟨by rfl, ?_⟩) (by assumption) ?_
              rotate_left 1
              · (intro w hSw; (try dsimp only at hSw); go_simp; all_goals with_reducible rfl)
              try simp only [Act.put, List.setIfInBounds_toArray, List.set_cons_zero, List.set_cons_succ]
              refine wpAnyH_take (i := 18) (v := ?_) rfl (by kernel_rfl) (by kernel_rfl) (by kernel_rfl) (fun _ _ _ h => h) (Or.inl ⟨by rfl, ?_⟩) (by assumption) ?_
              rotate_left 1
              · (intro w hSw; (try dsimp only at hSw); go_simp; all_goals with_reducible rfl)
              try simp only [Act.put, List.setIfInBounds_toArray, List.set_cons_zero, List.set_cons_succ]
              refine wpAnyH_take (i := 19) (v := ?_) rfl (by kernel_rfl) (by kernel_rfl) (by kernel_rfl) (fun _ _ _ h => h) (Or.inl ⟨by rfl, ?_⟩) (by assumption) ?_
              rotate_left 1
              · (intro w hSw; (try dsimp only at hSw); go_simp; all_goals with_reducible rfl)
              try simp only [Act.put, List.setIfInBounds_toArray, List.set_cons_zero, List.set_cons_succ]
              refine wpAnyH_take (i := 20) (v := ?_) rfl (by kernel_rfl) (by kernel_rfl) (by kernel_rfl) (fun _ _ _ h => h) (Or.inl ⟨by rfl, ?_⟩) (by assumption) ?_
              rotate_left 1
              · (intro w hSw; (try dsimp only at hSw); go_simp; all_goals with_reducible rfl)
              try simp only [Act.put, List.setIfInBounds_toArray, List.set_cons_zero, List.set_cons_succ]
              refine wpAnyH_ready (rs := [21]) (by kernel_rfl) (by simp) ?_
              refine AllReadyH.cons rfl (fun K hK => ?_) ?_
              rotate_left 1
              · exact AllReadyH.nil
              go_simp
              obtain ⟨s1, s2, s3, s4, s5, s6⟩ := hHeld
              have T0 : (Z.alloc (Obj.cells #[.int .i64 (ff : Int), .int .i64 (tt : Int), .int .i64 (mo + pt - pf)] 63)).drew.cell? ⟨ob, 1, none⟩ = some lv ∧ (Z.alloc (Obj.cells #[.int .i64 (ff : Int), .int .i64 (tt : Int), .int .i64 (mo + pt - pf)] 63)).drew.cell? ⟨wr.heap.size, 0, none⟩ = some (.int .i64 (ff : Int)) ∧ (Z.alloc (Obj.cells #[.int .i64 (ff : Int), .int .i64 (tt : Int), .int .i64 (mo + pt - pf)] 63)).drew.cell? ⟨wr.heap.size, 1, none⟩ = some (.int .i64 (tt : Int)) ∧ (Z.alloc (Obj.cells #[.int .i64 (ff : Int), .int .i64 (tt : Int), .int .i64 (mo + pt - pf)] 63)).drew.cell? ⟨wr.heap.size, 2, none⟩ = some (.int .i64 mo) ∧ (Z.alloc (Obj.cells #[.int .i64 (ff : Int), .int .i64 (tt : Int), .int .i64 (mo + pt - pf)] 63)).drew.cell? ⟨mb, tt, none⟩ = some (.int .i64 pt) ∧ (Z.alloc (Obj.cells #[.int .i64 (ff : Int), .int .i64 (tt : Int), .int .i64 (mo + pt - pf)] 63)).drew.cell? ⟨mb, ff, none⟩ = some (.int .i64 pf) := ⟨cell_alloc s1 _, cell_alloc s2 _, cell_alloc s3 _, cell_alloc s4 _, cell_alloc s5 _, cell_alloc s6 _⟩
              refine hK.out _ _ T0 (fun hHeld2 => ?_)
              clear hK K
              try simp only [Act.put, List.setIfInBounds_toArray, List.set_cons_zero, List.set_cons_succ]
              refine wpAnyH_ready (rs := [22]) (by kernel_rfl) (by simp) ?_
              refine AllReadyH.cons rfl (fun K hK => ?_) ?_
              rotate_left 1
              · exact AllReadyH.nil
              have hbZ : Below Z.heap.size Z (Z.alloc (Obj.cells #[.int .i64 (ff : Int), .int .i64 (tt : Int), .int .i64 (mo + pt - pf)] 63)).drew := ((Below.refl Z.heap.size Z).alloc (Nat.le_refl _) _).drew
              have hbW : Below wr.heap.size wr (Z.alloc (Obj.cells #[.int .i64 (ff : Int), .int .i64 (tt : Int), .int .i64 (mo + pt - pf)] 63)).drew := hZ.out.trans (hbZ.mono hZ.out.size)
              have hjl := Lib.hid (Ch.shf_len L (mvP bs) j)
              refine step_append_lks (by rfl) _ _ (by rfl) Y.heap.size _ (Ch.shf L (mvP bs) j).length (Ch.shf L (mvP bs) j) (by rfl) ((hoZ.out.alloc _).drew) (some ⟨Z.heap.size, 0, none⟩) 1 1 [⟨(ff : Int), (tt : Int), mo + pt - pf⟩] rfl (by rfl) ((lks_one Z (ff : Int) (tt : Int) (mo + pt - pf)).below (Below.refl _ _).drew) (fun h => by cases h) (by have := hjl.out; omega) (Nat.le_trans hbs hbW.size) ?_
              intro p1 cp1 wp1 hown1 hgrow1
              have hfar : ∀ g, lv.ownBlock = some g → Y.heap.size ≤ g := fun g hg => owns_far HO.out.o hg
              have hnr : lv.ownBlock ≠ some wr.heap.size := fun e => by have := own_lt HO.out.o e; omega
              have hobY := HO.out.lt
              have hmbY := hM3.out.lt
              obtain ⟨u1, u2, u3, u4, u5, u6⟩ := hHeld2
              refine hK.out _ _ ⟨cell_far hgrow1 hfar (by show ob < _; omega) u1, cell_near hgrow1 hnr u2, cell_near hgrow1 hnr u3, cell_near hgrow1 hnr u4, cell_far hgrow1 hfar (by show mb < _; omega) u5, cell_far hgrow1 hfar (by show mb < _; omega) u6⟩ (fun hHeld3 => ?_)
              clear hK K
              try simp only [Act.put, List.setIfInBounds_toArray, List.set_cons_zero, List.set_cons_succ]
              refine wpAnyH_done (by kernel_rfl) ?_ _
              show wpList _ _ _ _ _ _
              obtain ⟨HP, r2⟩ := HO.out.push hbW hgrow1 hown1
              have t1' := r2.cell (i := 1) (by omega)
              have tz1 := r2.frozen 1
              simp only [Nat.one_ne_zero, if_false] at t1'
              replace HP := Lib.hid HP
              have hLr2 : Hid (∀ i, i < j + 1 → -1099511627776 ≤ (L.getD i Ch.noLk).m ∧ (L.getD i Ch.noLk).m ≤ 1099511627776) := Lib.hid fun i hi => by
                by_cases e : i = j
                · subst e; rw [hmr.out]; omega
                · exact hLr.out i (by omega)
              clear hown1 hgrow1 hfar hnr hHeld3 u1 u2 u3 u4 u5 u6 s1 s2 s3 s4 s5 s6 T0 S0 HO r2 hbW hbZ hbA hoZ hZ hLr
              go_wp2
              go_roundw
              case rel => exact ⟨j + 1, _, by omega, by go_num, Lib.hid (by rw [hnx]; exact HP.out), hLr2⟩
              case measure => show m - ((j : Int) + 1).toNat < m - (j : Int).toNat; omega
        · obtain rfl : j = m := by omega
          have hi7 : ¬ (j : Int) < (j : Int) := by omega
          obtain ⟨kk, kk2, hSh⟩ := HSh.out (fun i hi => hLr.out i (by have := hm.out; omega)) hPr.out
          obtain ⟨px, cx, hv9, hK9⟩ := lks_of_owns HO.out.o
          subst hv9
          have hlen := Ch.shf_len L (mvP bs) j
          have o0 : wr.cell? ⟨ob, 0, none⟩ = some (.int .i64 (k : Int)) := HO.out.r.cell (i := 0) (by omega)
          have o1 : wr.cell? ⟨ob, 1, none⟩ = some (.slice px (Ch.shf L (mvP bs) j).length cx) := HO.out.r.cell (i := 1) (by omega)
          obtain ⟨M, hMM⟩ : ∃ M, Ch.shf L (mvP bs) j = M := ⟨_, rfl⟩
          rw [hMM] at hlen o1 hK9 hSh HO
          rw [hlen] at o1
          have hJ4 : Hid (LJ w (k : Int) a b d j cap L bs xs wr) := Lib.hid ⟨k0, k1, hL.out.below hbA.out, hx.out.below hbA.out, hy.out.below hbA.out, hbA.out⟩
          have hX4 : Hid (SX ob (k : Int) px j cx M wr) := Lib.hid ⟨o0, o1, hK9⟩
          have hM4 := Lib.hid (HO.out.b.row hM3.out (by omega))
          obtain ⟨c, er, hc1, hc2, hcl9⟩ := hSh.clash
          obtain ⟨hb1, hb2⟩ := hSh.bound u v
          obtain ⟨ch, er2, hd1, hd2, hch9⟩ := hSh.chain u v
          have HCl := Lib.hid fun (W : World) (h : LJ w (k : Int) a b d j cap L bs xs W) => clashE_any (k : Int) a cap L kk hSh.e1.en c er hc1 W h.l
          have HCt := Lib.hid fun (W : World) (xb : Nat) (x : Option Addr) (cx : Nat) (h : SX xb (k : Int) x j cx M W) => clashE_any (k : Int) x cx M kk2 hSh.e2.en c er hc2 W h.l
          have HBo := Lib.hid fun (W : World) (h : LJ w (k : Int) a b d j cap L bs xs W) => bound_any (k : Int) a cap L u v kk hSh.e1.en W h.l
          have HBt := Lib.hid fun (W : World) (xb : Nat) (x : Option Addr) (cx : Nat) (h : SX xb (k : Int) x j cx M W) => bound_any (k : Int) x cx M u v kk2 hSh.e2.en W h.l
          have HCh := Lib.hid fun (W : World) (h : LJ w (k : Int) a b d j cap L bs xs W) => chain_any (k : Int) a cap L u v kk hSh.e1.en ch er2 hd1 W h.l
          have HDh := Lib.hid fun (W : World) (xb : Nat) (x : Option Addr) (cx : Nat) (h : SX xb (k : Int) x j cx M W) => chain_any (k : Int) x cx M u v kk2 hSh.e2.en ch er2 hd2 W h.l
          have HSI := Lib.hid fun (W : World) (l : List Nat) (hl : l.length ≤ 60) (p p' : Option Addr) (c c' : Nat) (h : IntsAt W p (Ch.ints l)) (h' : IntsAt W p' (Ch.ints l)) => sameInts_any p p' c c' (Ch.ints l) (Ch.ints l) (by rw [Ch.ints_len]; omega) W h h'
          simp only [decide_true, Ch.ints_len] at HSI
          have HFx := Lib.hid fun (W : World) (h : LJ w (k : Int) a b d j cap L bs xs W) => fits_any (k : Int) a cap L d c2 xs W h.l h.y
          have HFy := Lib.hid fun (W : World) (xb : Nat) (x : Option Addr) (cx : Nat) (h : SX xb (k : Int) x j cx M W) (yp : Option Addr) (yc : Nat) (Y : List Int) (hY : IntsAt W yp Y) => fits_any (k : Int) x cx M yp yc Y W h.l hY
          have hft := Lib.hid fun (hx : (xs.length : Int) = (k : Int)) hb => hSh.fits (x := xs) (y := mvY bs xs k) rfl hx hb (by rw [mvY_len]; omega) (fun i hi => mvY_at (by omega))
          rw [hm.out] at HCl HBo HCh HFx
          rw [hlen] at HCt HBt HDh HFy
          rw [hq.out] at HFx
          obtain ⟨B, be, hbo⟩ : ∃ B be, Ch.bound (k : Int) L kk u v = (B, be) := ⟨_, _, rfl⟩
          obtain ⟨B2, be2, hbo2⟩ : ∃ B be, Ch.bound (k : Int) M kk2 u v = (B, be) := ⟨_, _, rfl⟩
          have hrg := Ch.bound_range hSh.e1.en u v
          have hui : be = 0 → (0 ≤ u ∧ u < (k : Int)) ∧ (0 ≤ v ∧ v < (k : Int)) := fun h => by
            have h1 := Ch.opn_at hSh.e1 (Ch.bound_some (by rw [hbo]; exact h)).1
            exact ⟨h1.2.1, h1.2.2.1⟩
          rw [hbo] at HBo hb1 hb2 hrg
          rw [hbo2] at HBt hb1 hb2
          obtain rfl : be = be2 := hb1
          simp only at hb2 hrg
          have heq : (er != er) = false := by simp
          have heq2 : (er2 != er2) = false := by simp
          have heq3 : (be != be) = false := by simp
          replace hb2 := Lib.hid hb2
          replace hui := Lib.hid hui
          obtain ⟨hrg1, hrg2⟩ := hrg
          unfold sysV at *
          clear o0 o1 hK9 k0 k1 hc1 hc2 hd1 hd2 hSh HSh hbo hbo2 HO hbA hMM
          have k0 := hJ4.out.c0
          have k1 := hJ4.out.c1
          have x0 := hX4.out.c0
          have x1 := hX4.out.c1
          go_wp2_with fail
          refine (HCl.out _ hJ4.out).mono ?_
          rintro e w5 ⟨cv, rfl, hown, hb⟩
          obtain ⟨p5, q5, rfl, ha5, _⟩ := ints_of_own hown
          replace ha5 := Lib.hid ha5
          have hJ5 := Lib.hid (hJ4.out.below hb)
          have hX5 := Lib.hid (hX4.out.below hb)
          have hM5 := Lib.hid (Below.row hb hM4.out)
          clear hb k0 k1 x0 x1 hJ4 hX4 hM4 HCl hown
          have k0 := hJ5.out.c0
          have k1 := hJ5.out.c1
          have x0 := hX5.out.c0
          have x1 := hX5.out.c1
          go_wp2_with fail
          refine (HCt.out _ _ _ _ hX5.out).mono ?_
          rintro e w6 ⟨dv, rfl, hown, hb⟩
          obtain ⟨p6, q6, rfl, ha6, _⟩ := ints_of_own hown
          replace ha6 := Lib.hid ha6
          have hJ6 := Lib.hid (hJ5.out.below hb)
          have hX6 := Lib.hid (hX5.out.below hb)
          have hM6 := Lib.hid (Below.row hb hM5.out)
          have ha7 := Lib.hid (ha5.out.below hb)
          clear hb k0 k1 x0 x1 hJ5 hX5 hM5 HCt hown ha5
          have k0 := hJ6.out.c0
          have k1 := hJ6.out.c1
          have x0 := hX6.out.c0
          have x1 := hX6.out.c1
          go_wp2_with fail
          refine (HSI.out _ c hcl9 _ _ _ _ ha7.out ha6.out).mono ?_
          rintro e w7 ⟨rfl, hb⟩
          have hJ7 := Lib.hid (hJ6.out.below hb)
          have hX7 := Lib.hid (hX6.out.below hb)
          have hM7 := Lib.hid (Below.row hb hM6.out)
          clear hb k0 k1 x0 x1 hJ6 hX6 hM6 ha7 ha6
          have k0 := hJ7.out.c0
          have k1 := hJ7.out.c1
          have x0 := hX7.out.c0
          have x1 := hX7.out.c1
          go_wp2_with fail
          refine (HBo.out _ hJ7.out).mono ?_
          rintro e w8 ⟨rfl, hb⟩
          have hJ8 := Lib.hid (hJ7.out.below hb)
          have hX8 := Lib.hid (hX7.out.below hb)
          have hM8 := Lib.hid (Below.row hb hM7.out)
          clear hb k0 k1 x0 x1 hJ7 hX7 hM7 HBo
          have k0 := hJ8.out.c0
          have k1 := hJ8.out.c1
          have x0 := hX8.out.c0
          have x1 := hX8.out.c1
          go_wp2_with fail
          refine (HBt.out _ _ _ _ hX8.out).mono ?_
          rintro e w9 ⟨rfl, hb⟩
          have hJ9 := Lib.hid (hJ8.out.below hb)
          have hX9 := Lib.hid (hX8.out.below hb)
          have hM9 := Lib.hid (Below.row hb hM8.out)
          clear hb k0 k1 x0 x1 hJ8 hX8 hM8 HBt
          by_cases hbe : be = 0
          · subst hbe
            obtain ⟨⟨u0, u1⟩, v0, v1⟩ := hui.out rfl
            obtain ⟨ui, rfl⟩ : ∃ i : Nat, u = (i : Int) := ⟨u.toNat, by omega⟩
            obtain ⟨vi, rfl⟩ : ∃ i : Nat, v = (i : Int) := ⟨v.toNat, by omega⟩
            have huk : ui < k := by omega
            have hvk : vi < k := by omega
            have mt := hM9.out.cell (i := vi) hvk
            have mf := hM9.out.cell (i := ui) huk
            obtain ⟨pt1, pt2⟩ := hPr.out vi hvk
            obtain ⟨pf1, pf2⟩ := hPr.out ui huk
            have hb3 := hb2.out rfl
            simp only [Int.toNat_natCast] at hb3
            obtain ⟨pt, hpt⟩ : ∃ x, mvP bs vi = x := ⟨_, rfl⟩
            obtain ⟨pf, hpf⟩ : ∃ x, mvP bs ui = x := ⟨_, rfl⟩
            rw [hpt] at mt hb3 pt1 pt2
            rw [hpf] at mf hb3 pf1 pf2
            have hne : (B2 != B + pt - pf) = false := by rw [bne_eq_false_iff_eq]; exact hb3
            have hw1 : IntKind.i64.wrap (B + pt) = B + pt := wrap_ok (by omega) (by omega)
            have hw2 : IntKind.i64.wrap (B + pt - pf) = B + pt - pf := wrap_ok (by omega) (by omega)
            clear hb2 hb3 hui hpt hpf
            have k0 := hJ9.out.c0
            have k1 := hJ9.out.c1
            go_upto_region 24 with fail
            go_quiet (fail)
            have hb := below_drewN (Below.refl w9.heap.size w9) nq
            have hJ10 := Lib.hid (hJ9.out.below hb)
            have hX10 := Lib.hid (hX9.out.below hb)
            have hM10 := Lib.hid (Below.row hb hM9.out)
            clear hb k0 k1 mt mf hne hJ9 hX9 hM9
            generalize w9.drewN nq = w10 at *
            have k0 := hJ10.out.c0
            have k1 := hJ10.out.c1
            have x0 := hX10.out.c0
            have x1 := hX10.out.c1
            go_wp2_with fail
            refine (HCh.out _ hJ10.out).mono ?_
            rintro e w11 ⟨cv, rfl, hown, hb⟩
            obtain ⟨p5, q5, rfl, ha5, _⟩ := ints_of_own hown
            replace ha5 := Lib.hid ha5
            have hJ11 := Lib.hid (hJ10.out.below hb)
            have hX11 := Lib.hid (hX10.out.below hb)
            have hM11 := Lib.hid (Below.row hb hM10.out)
            clear hb k0 k1 x0 x1 hJ10 hX10 hM10 HCh hown
            have k0 := hJ11.out.c0
            have k1 := hJ11.out.c1
            have x0 := hX11.out.c0
            have x1 := hX11.out.c1
            go_wp2_with fail
            refine (HDh.out _ _ _ _ hX11.out).mono ?_
            rintro e w12 ⟨dv, rfl, hown, hb⟩
            obtain ⟨p6, q6, rfl, ha6, _⟩ := ints_of_own hown
            replace ha6 := Lib.hid ha6
            have hJ12 := Lib.hid (hJ11.out.below hb)
            have hX12 := Lib.hid (hX11.out.below hb)
            have hM12 := Lib.hid (Below.row hb hM11.out)
            have ha7 := Lib.hid (ha5.out.below hb)
            clear hb k0 k1 x0 x1 hJ11 hX11 hM11 HDh hown ha5
            have k0 := hJ12.out.c0
            have k1 := hJ12.out.c1
            have x0 := hX12.out.c0
            have x1 := hX12.out.c1
            go_wp2_with fail
            refine (HSI.out _ ch hch9 _ _ _ _ ha7.out ha6.out).mono ?_
            rintro e w13 ⟨rfl, hb⟩
            have hJ13 := Lib.hid (hJ12.out.below hb)
            have hX13 := Lib.hid (hX12.out.below hb)
            have hM13 := Lib.hid (Below.row hb hM12.out)
            clear hb k0 k1 x0 x1 hJ12 hX12 hM12 HSI ha7 ha6
            have k0 := hJ13.out.c0
            have k1 := hJ13.out.c1
            by_cases hqN : q = k
            · subst hqN
              have hqq : ((q : Int) != (q : Int)) = false := by simp
              obtain ⟨i0, hi, hz0, hz1, hz2⟩ := info_parts infoInt
              go_wp2
              clear k0 k1
              go_loopw [29, 28] (fun i yv wr => ∃ j2 : Nat, j2 ≤ q ∧ i = .int .i64 j2 ∧ Hid (Below w13.heap.size w13 wr) ∧ Hid (wr.ownsRow w13.heap.size 3 1 yv (mvY bs xs j2).length ((mvY bs xs j2).map iV)) ∧ Hid (∀ i, i < j2 → -1125899906842624 ≤ xs.getD i 0 ∧ xs.getD i 0 ≤ 1125899906842624)) (fun i _ _ => q - (RowKit.intOf i).toNat)
              case atStart => exact ⟨0, Nat.zero_le _, rfl, Lib.hid (Below.refl _ _), Lib.hid (World.ownsRow_nil _ _ _ _), Lib.hid fun i hi => by omega⟩
              case round =>
                obtain ⟨j2, hj2, rfl, hB, hown, hxr⟩ := hrel
                by_cases hlt2 : j2 < q
                · have hi9 : (j2 : Int) < (q : Int) := by omega
                  have hi10 : (0 : Int) ≤ (j2 : Int) := by omega
                  obtain ⟨x, rfl, hcx⟩ := hJ13.out.y j2 (by have := hq.out; omega)
                  have dx := kept1 hcx hB.out
                  have dm := (Below.row hB.out hM13.out).cell (i := j2) hlt2
                  have bx := block_lt_of_cell hcx
                  have bm := hM13.out.lt
                  obtain ⟨pm1, pm2⟩ := hPr.out j2 hlt2
                  have hnx := mvY_next (bs := bs) (xs := xs) (j := j2)
                  have hB9 := hJ13.out.b.trans (hB.out.mono hJ13.out.b.size)
                  obtain ⟨z, hz⟩ : ∃ z, xs.getD j2 0 = z := ⟨_, rfl⟩
                  obtain ⟨pv, hpv⟩ : ∃ z, mvP bs j2 = z := ⟨_, rfl⟩
                  rw [hz, hpv] at hnx
                  rw [hz] at dx
                  rw [hpv] at dm pm1 pm2
                  have hzr := Lib.hid hz
                  clear hcx hz hpv
                  by_cases c1' : z < -1125899906842624
                  · clear hnx hown hxr hB dm
                    go_wp2_with fail
                    refine (HSa.out _).mono ?_
                    rintro e w99 ⟨rfl, hb⟩
                    have hB := (hB9).trans (hb.mono (hB9).size)
                    clear hb dx hB9
                    go_wp2
                    go_ret
                    exact ⟨rfl, hB⟩
                  · by_cases c2' : 1125899906842624 < z
                    · clear hnx hown hxr hB dm
                      go_wp2_with fail
                      refine (HSa.out _).mono ?_
                      rintro e w99 ⟨rfl, hb⟩
                      have hB := (hB9).trans (hb.mono (hB9).size)
                      clear hb dx hB9
                      go_wp2
                      go_ret
                      exact ⟨rfl, hB⟩
                    · clear hB9
                      have hw1 : IntKind.i64.wrap (z + pv) = z + pv := wrap_ok (by omega) (by omega)
                      have htk : (mvY bs xs j2).length ≤ j2 := by rw [mvY_len]; exact Nat.le_refl _
                      obtain ⟨us, hus⟩ : ∃ us, mvY bs xs j2 = us := ⟨_, rfl⟩
                      rw [hus] at hown hnx htk
                      clear hus
                      go_upto_region 38 with fail
                      have hfar := Lib.hid fun g hg => owns_far hown.out (g := g) hg
                      have hsz := hB.out.size
                      have S0 : wr.drew.cell? (x.add j2) = some (.int .i64 z) ∧ wr.drew.cell? ⟨mb, j2, none⟩ = some (.int .i64 pv) := ⟨dx, dm⟩
                      have hown1 := hown
                      go_region_held3 (fun w' => w'.cell? (x.add j2) = some (.int .i64 z) ∧ w'.cell? ⟨mb, j2, none⟩ = some (.int .i64 pv))
                        (first | with_reducible exact S0 | with_reducible exact keepC (by assumption) ((Below.refl _ _).alloc (Nat.le_refl _) _) | exact shl_keep (by assumption) hgrow hfar.out bx bm)
                        (first | (refine step_append_lies _ (by rfl) _ _ _ (by rfl) w13.heap.size 3 i0 _ 1 8 Try.underlying32 hi hz0 hz1 hz2 rfl (by omega) _ us.length (us.map iV) (by rfl) ((hown1.out.drew).alloc _) ⟨wr.heap.size, 0, none⟩ 1 1 [.int .i64 (z + pv)] (by rfl) (by rfl) (World.news_of_block (cs := #[.int .i64 (z + pv)]) (t := 3) (fr := (0, 0)) (heap_alloc_new wr.drew _)) (by simp [Value.oneCell']) (by omega) (by unfold maxLen; omega) (by omega) (by simp; omega) (wr.heap.size + 1) (by simp) ?_; intro g cp wp1 hown2 hgrow hat hlt2))
                      have hbA2 : Below w13.heap.size w13 (wr.alloc (Obj.cells #[.int .i64 (z + pv)] 3)) := hB.out.alloc hB.out.size _
                      have hg1 : (wr.alloc (Obj.cells #[.int .i64 (z + pv)] 3)).grownBy wp1 _ := ⟨hgrow.os, hgrow.tape, hgrow.output, hgrow.size, hgrow.block⟩
                      have hB2 := Lib.hid (below_grown hbA2 (hown.out.alloc _) hg1)
                      have hown3 : Hid (wp1.ownsRow w13.heap.size 3 1 (.slice (some ⟨g, 0, none⟩) (us.length + 1) cp) (mvY bs xs (j2 + 1)).length ((mvY bs xs (j2 + 1)).map iV)) := Lib.hid (by
                        rw [hnx, List.length_append, List.map_append]
                        exact hown2)
                      have hxr2 : Hid (∀ i, i < j2 + 1 → -1125899906842624 ≤ xs.getD i 0 ∧ xs.getD i 0 ≤ 1125899906842624) := Lib.hid fun i hi => by
                        by_cases e : i = j2
                        · subst e; rw [hzr.out]; omega
                        · exact hxr.out i (by omega)
                      clear hown2 hgrow hat hown1 hown hfar S0 hsz hB hg1 hbA2 hxr dx dm
                      go_wp2
                      go_roundw
                      case rel => exact ⟨j2 + 1, by omega, by go_num, hB2, hown3, hxr2⟩
                      case measure => show q - ((j2 : Int) + 1).toNat < q - (j2 : Int).toNat; omega
                · obtain rfl : j2 = q := by omega
                  have hi9 : ¬ (j2 : Int) < (j2 : Int) := by omega
                  obtain ⟨r, hr1, hr2⟩ := hft.out (by rw [hq.out]) (fun i hi => hxr.out i (by have := hq.out; omega))
                  obtain ⟨yp, yc, rfl, hyi⟩ := ints_of_ownI hown.out
                  replace hyi := Lib.hid hyi
                  have hJ14 := Lib.hid (hJ13.out.below hB.out)
                  have hX14 := Lib.hid (hX13.out.below hB.out)
                  have hM14 := Lib.hid (Below.row hB.out hM13.out)
                  rw [hr1] at HFx
                  have HFz := Lib.hid fun (W : World) (h : SX ob (j2 : Int) px j cx M W) (hY : IntsAt W yp (mvY bs xs j2)) => HFy.out W ob px cx h yp yc (mvY bs xs j2) hY
                  rw [hr2] at HFz
                  have hrr : (r == r) = true := by simp
                  clear hown hB hJ13 hX13 hM13 hxr hft HFy hr1 hr2
                  have k0 := hJ14.out.c0
                  have k1 := hJ14.out.c1
                  have x0 := hX14.out.c0
                  have x1 := hX14.out.c1
                  go_wp2_with fail
                  refine (HFx.out _ hJ14.out).mono ?_
                  rintro e w15 ⟨rfl, hb⟩
                  have hJ15 := Lib.hid (hJ14.out.below hb)
                  have hX15 := Lib.hid (hX14.out.below hb)
                  have hM15 := Lib.hid (Below.row hb hM14.out)
                  have hyj := Lib.hid (hyi.out.below hb)
                  clear hb k0 k1 x0 x1 hJ14 hX14 hM14 HFx hyi
                  have k0 := hJ15.out.c0
                  have k1 := hJ15.out.c1
                  have x0 := hX15.out.c0
                  have x1 := hX15.out.c1
                  go_wp2_with fail
                  refine (HFz.out _ hX15.out hyj.out).mono ?_
                  rintro e w16 ⟨rfl, hb⟩
                  have hJ16 := Lib.hid (hJ15.out.below hb)
                  have hX16 := Lib.hid (hX15.out.below hb)
                  have hM16 := Lib.hid (Below.row hb hM15.out)
                  clear hb k0 k1 x0 x1 hJ15 hX15 hM15 HFz hyj
                  go_wp2_with fail
                  refine (HSa.out _).mono ?_
                  rintro e w99 ⟨rfl, hb⟩
                  have hB := (hJ16.out.b).trans (hb.mono (hJ16.out.b).size)
                  clear hb hJ16 hX16 hM16
                  go_wp2
                  go_ret
                  exact ⟨rfl, hB⟩
            · have hqq : ((q : Int) != (k : Int)) = true := by rw [bne_iff_ne]; omega
              have hB9 := hJ13.out.b
              clear hJ13 hX13 hM13 hft HFx HFy
              go_wp2_with fail
              refine (HSa.out _).mono ?_
              rintro e w99 ⟨rfl, hb⟩
              have hB := (hB9).trans (hb.mono (hB9).size)
              clear hb k0 k1 hB9
              go_wp2
              go_ret
              exact ⟨rfl, hB⟩
          · have hz3 : (be == 0) = false := by rw [beq_eq_false_iff_ne]; exact hbe
            clear hb2 hui
            have k0 := hJ9.out.c0
            have k1 := hJ9.out.c1
            go_upto_region 24 with fail
            go_quiet (fail)
            have hb := below_drewN (Below.refl w9.heap.size w9) nq
            have hJ10 := Lib.hid (hJ9.out.below hb)
            have hX10 := Lib.hid (hX9.out.below hb)
            have hM10 := Lib.hid (Below.row hb hM9.out)
            clear hb k0 k1 hJ9 hX9 hM9
            generalize w9.drewN nq = w10 at *
            have k0 := hJ10.out.c0
            have k1 := hJ10.out.c1
            have x0 := hX10.out.c0
            have x1 := hX10.out.c1
            go_wp2_with fail
            refine (HCh.out _ hJ10.out).mono ?_
            rintro e w11 ⟨cv, rfl, hown, hb⟩
            obtain ⟨p5, q5, rfl, ha5, _⟩ := ints_of_own hown
            replace ha5 := Lib.hid ha5
            have hJ11 := Lib.hid (hJ10.out.below hb)
            have hX11 := Lib.hid (hX10.out.below hb)
            have hM11 := Lib.hid (Below.row hb hM10.out)
            clear hb k0 k1 x0 x1 hJ10 hX10 hM10 HCh hown
            have k0 := hJ11.out.c0
            have k1 := hJ11.out.c1
            have x0 := hX11.out.c0
            have x1 := hX11.out.c1
            go_wp2_with fail
            refine (HDh.out _ _ _ _ hX11.out).mono ?_
            rintro e w12 ⟨dv, rfl, hown, hb⟩
            obtain ⟨p6, q6, rfl, ha6, _⟩ := ints_of_own hown
            replace ha6 := Lib.hid ha6
            have hJ12 := Lib.hid (hJ11.out.below hb)
            have hX12 := Lib.hid (hX11.out.below hb)
            have hM12 := Lib.hid (Below.row hb hM11.out)
            have ha7 := Lib.hid (ha5.out.below hb)
            clear hb k0 k1 x0 x1 hJ11 hX11 hM11 HDh hown ha5
            have k0 := hJ12.out.c0
            have k1 := hJ12.out.c1
            have x0 := hX12.out.c0
            have x1 := hX12.out.c1
            go_wp2_with fail
            refine (HSI.out _ ch hch9 _ _ _ _ ha7.out ha6.out).mono ?_
            rintro e w13 ⟨rfl, hb⟩
            have hJ13 := Lib.hid (hJ12.out.below hb)
            have hX13 := Lib.hid (hX12.out.below hb)
            have hM13 := Lib.hid (Below.row hb hM12.out)
            clear hb k0 k1 x0 x1 hJ12 hX12 hM12 HSI ha7 ha6
            have k0 := hJ13.out.c0
            have k1 := hJ13.out.c1
            by_cases hqN : q = k
            · subst hqN
              have hqq : ((q : Int) != (q : Int)) = false := by simp
              obtain ⟨i0, hi, hz0, hz1, hz2⟩ := info_parts infoInt
              go_wp2
              clear k0 k1
              go_loopw [29, 28] (fun i yv wr => ∃ j2 : Nat, j2 ≤ q ∧ i = .int .i64 j2 ∧ Hid (Below w13.heap.size w13 wr) ∧ Hid (wr.ownsRow w13.heap.size 3 1 yv (mvY bs xs j2).length ((mvY bs xs j2).map iV)) ∧ Hid (∀ i, i < j2 → -1125899906842624 ≤ xs.getD i 0 ∧ xs.getD i 0 ≤ 1125899906842624)) (fun i _ _ => q - (RowKit.intOf i).toNat)
              case atStart => exact ⟨0, Nat.zero_le _, rfl, Lib.hid (Below.refl _ _), Lib.hid (World.ownsRow_nil _ _ _ _), Lib.hid fun i hi => by omega⟩
              case round =>
                obtain ⟨j2, hj2, rfl, hB, hown, hxr⟩ := hrel
                by_cases hlt2 : j2 < q
                · have hi9 : (j2 : Int) < (q : Int) := by omega
                  have hi10 : (0 : Int) ≤ (j2 : Int) := by omega
                  obtain ⟨x, rfl, hcx⟩ := hJ13.out.y j2 (by have := hq.out; omega)
                  have dx := kept1 hcx hB.out
                  have dm := (Below.row hB.out hM13.out).cell (i := j2) hlt2
                  have bx := block_lt_of_cell hcx
                  have bm := hM13.out.lt
                  obtain ⟨pm1, pm2⟩ := hPr.out j2 hlt2
                  have hnx := mvY_next (bs := bs) (xs := xs) (j := j2)
                  have hB9 := hJ13.out.b.trans (hB.out.mono hJ13.out.b.size)
                  obtain ⟨z, hz⟩ : ∃ z, xs.getD j2 0 = z := ⟨_, rfl⟩
                  obtain ⟨pv, hpv⟩ : ∃ z, mvP bs j2 = z := ⟨_, rfl⟩
                  rw [hz, hpv] at hnx
                  rw [hz] at dx
                  rw [hpv] at dm pm1 pm2
                  have hzr := Lib.hid hz
                  clear hcx hz hpv
                  by_cases c1' : z < -1125899906842624
                  · clear hnx hown hxr hB dm
                    go_wp2_with fail
                    refine (HSa.out _).mono ?_
                    rintro e w99 ⟨rfl, hb⟩
                    have hB := (hB9).trans (hb.mono (hB9).size)
                    clear hb dx hB9
                    go_wp2
                    go_ret
                    exact ⟨rfl, hB⟩
                  · by_cases c2' : 1125899906842624 < z
                    · clear hnx hown hxr hB dm
                      go_wp2_with fail
                      refine (HSa.out _).mono ?_
                      rintro e w99 ⟨rfl, hb⟩
                      have hB := (hB9).trans (hb.mono (hB9).size)
                      clear hb dx hB9
                      go_wp2
                      go_ret
                      exact ⟨rfl, hB⟩
                    · clear hB9
                      have hw1 : IntKind.i64.wrap (z + pv) = z + pv := wrap_ok (by omega) (by omega)
                      have htk : (mvY bs xs j2).length ≤ j2 := by rw [mvY_len]; exact Nat.le_refl _
                      obtain ⟨us, hus⟩ : ∃ us, mvY bs xs j2 = us := ⟨_, rfl⟩
                      rw [hus] at hown hnx htk
                      clear hus
                      go_upto_region 38 with fail
                      have hfar := Lib.hid fun g hg => owns_far hown.out (g := g) hg
                      have hsz := hB.out.size
                      have S0 : wr.drew.cell? (x.add j2) = some (.int .i64 z) ∧ wr.drew.cell? ⟨mb, j2, none⟩ = some (.int .i64 pv) := ⟨dx, dm⟩
                      have hown1 := hown
                      go_region_held3 (fun w' => w'.cell? (x.add j2) = some (.int .i64 z) ∧ w'.cell? ⟨mb, j2, none⟩ = some (.int .i64 pv))
                        (first | with_reducible exact S0 | with_reducible exact keepC (by assumption) ((Below.refl _ _).alloc (Nat.le_refl _) _) | exact shl_keep (by assumption) hgrow hfar.out bx bm)
                        (first | (refine step_append_lies _ (by rfl) _ _ _ (by rfl) w13.heap.size 3 i0 _ 1 8 Try.underlying32 hi hz0 hz1 hz2 rfl (by omega) _ us.length (us.map iV) (by rfl) ((hown1.out.drew).alloc _) ⟨wr.heap.size, 0, none⟩ 1 1 [.int .i64 (z + pv)] (by rfl) (by rfl) (World.news_of_block (cs := #[.int .i64 (z + pv)]) (t := 3) (fr := (0, 0)) (heap_alloc_new wr.drew _)) (by simp [Value.oneCell']) (by omega) (by unfold maxLen; omega) (by omega) (by simp; omega) (wr.heap.size + 1) (by simp) ?_; intro g cp wp1 hown2 hgrow hat hlt2))
                      have hbA2 : Below w13.heap.size w13 (wr.alloc (Obj.cells #[.int .i64 (z + pv)] 3)) := hB.out.alloc hB.out.size _
                      have hg1 : (wr.alloc (Obj.cells #[.int .i64 (z + pv)] 3)).grownBy wp1 _ := ⟨hgrow.os, hgrow.tape, hgrow.output, hgrow.size, hgrow.block⟩
                      have hB2 := Lib.hid (below_grown hbA2 (hown.out.alloc _) hg1)
                      have hown3 : Hid (wp1.ownsRow w13.heap.size 3 1 (.slice (some ⟨g, 0, none⟩) (us.length + 1) cp) (mvY bs xs (j2 + 1)).length ((mvY bs xs (j2 + 1)).map iV)) := Lib.hid (by
                        rw [hnx, List.length_append, List.map_append]
                        exact hown2)
                      have hxr2 : Hid (∀ i, i < j2 + 1 → -1125899906842624 ≤ xs.getD i 0 ∧ xs.getD i 0 ≤ 1125899906842624) := Lib.hid fun i hi => by
                        by_cases e : i = j2
                        · subst e; rw [hzr.out]; omega
                        · exact hxr.out i (by omega)
                      clear hown2 hgrow hat hown1 hown hfar S0 hsz hB hg1 hbA2 hxr dx dm
                      go_wp2
                      go_roundw
                      case rel => exact ⟨j2 + 1, by omega, by go_num, hB2, hown3, hxr2⟩
                      case measure => show q - ((j2 : Int) + 1).toNat < q - (j2 : Int).toNat; omega
                · obtain rfl : j2 = q := by omega
                  have hi9 : ¬ (j2 : Int) < (j2 : Int) := by omega
                  obtain ⟨r, hr1, hr2⟩ := hft.out (by rw [hq.out]) (fun i hi => hxr.out i (by have := hq.out; omega))
                  obtain ⟨yp, yc, rfl, hyi⟩ := ints_of_ownI hown.out
                  replace hyi := Lib.hid hyi
                  have hJ14 := Lib.hid (hJ13.out.below hB.out)
                  have hX14 := Lib.hid (hX13.out.below hB.out)
                  have hM14 := Lib.hid (Below.row hB.out hM13.out)
                  rw [hr1] at HFx
                  have HFz := Lib.hid fun (W : World) (h : SX ob (j2 : Int) px j cx M W) (hY : IntsAt W yp (mvY bs xs j2)) => HFy.out W ob px cx h yp yc (mvY bs xs j2) hY
                  rw [hr2] at HFz
                  have hrr : (r == r) = true := by simp
                  clear hown hB hJ13 hX13 hM13 hxr hft HFy hr1 hr2
                  have k0 := hJ14.out.c0
                  have k1 := hJ14.out.c1
                  have x0 := hX14.out.c0
                  have x1 := hX14.out.c1
                  go_wp2_with fail
                  refine (HFx.out _ hJ14.out).mono ?_
                  rintro e w15 ⟨rfl, hb⟩
                  have hJ15 := Lib.hid (hJ14.out.below hb)
                  have hX15 := Lib.hid (hX14.out.below hb)
                  have hM15 := Lib.hid (Below.row hb hM14.out)
                  have hyj := Lib.hid (hyi.out.below hb)
                  clear hb k0 k1 x0 x1 hJ14 hX14 hM14 HFx hyi
                  have k0 := hJ15.out.c0
                  have k1 := hJ15.out.c1
                  have x0 := hX15.out.c0
                  have x1 := hX15.out.c1
                  go_wp2_with fail
                  refine (HFz.out _ hX15.out hyj.out).mono ?_
                  rintro e w16 ⟨rfl, hb⟩
                  have hJ16 := Lib.hid (hJ15.out.below hb)
                  have hX16 := Lib.hid (hX15.out.below hb)
                  have hM16 := Lib.hid (Below.row hb hM15.out)
                  clear hb k0 k1 x0 x1 hJ15 hX15 hM15 HFz hyj
                  go_wp2_with fail
                  refine (HSa.out _).mono ?_
                  rintro e w99 ⟨rfl, hb⟩
                  have hB := (hJ16.out.b).trans (hb.mono (hJ16.out.b).size)
                  clear hb hJ16 hX16 hM16
                  go_wp2
                  go_ret
                  exact ⟨rfl, hB⟩
            · have hqq : ((q : Int) != (k : Int)) = true := by rw [bne_iff_ne]; omega
              have hB9 := hJ13.out.b
              clear hJ13 hX13 hM13 hft HFx HFy
              go_wp2_with fail
              refine (HSa.out _).mono ?_
              rintro e w99 ⟨rfl, hb⟩
              have hB := (hB9).trans (hb.mono (hB9).size)
              clear hb k0 k1 hB9
              go_wp2
              go_ret
              exact ⟨rfl, hB⟩
end Go.Proofs.Ytpddjofmiakpbaa
