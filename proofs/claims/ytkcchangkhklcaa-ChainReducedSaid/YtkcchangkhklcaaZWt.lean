/- Contracts of package chain: Without. -/
import Derived.Test.YtkcchangkhklcaaZWo
set_option linter.unusedSimpArgs false
set_option linter.unusedVariables false
namespace Go.Proofs.Ytkcchangkhklcaa
open Go.RowKit

/-- what Without leaves -/
def WtPost (w : World) (n : Int) (L : List Ch.Lk) (er : Int) (e : Ending) (w' : World) : Prop :=
  ∃ k v, e = .returned (.tuple #[.agg #[.int .i64 k, v], .int .i64 er]) ∧ (er ≠ 0 → k = 0 ∧ v = .slice none 0 0) ∧ (er = 0 → k = n ∧ w'.ownsRow w.heap.size 58 3 v L.length (lkCells L)) ∧ Below w.heap.size w w'

set_option maxRecDepth 100000 in
set_option maxHeartbeats 4000000 in
theorem withoutS_any (n : Int) (a b : Option Addr) (m q cap cap2 : Nat) (L : List Ch.Lk) (l : List Int) (hm : Hid (L.length = m)) (hq : Hid (l.length = q)) (hq9 : q ≤ 1000) (w : World) (hL : Hid (LksAt w a L)) (hl : Hid (IntsAt w b l)) :
    Calls Try.prog 41 #[sysV n a m cap, .slice b q cap2] w (WtPost w n (Ch.wo L l m) (Ch.check n L).1) := by
  have HC := Lib.hid fun (W : World) (hb : Below w.heap.size w W) => check_any n a cap L W (hL.out.below hb)
  rw [hm.out] at HC
  have hok := Ch.check_ok (n := n) (L := L)
  obtain ⟨ec, hec⟩ : ∃ ec, (Ch.check n L).1 = ec := ⟨_, rfl⟩
  obtain ⟨at1, hat⟩ : ∃ at1, (Ch.check n L).2 = at1 := ⟨_, rfl⟩
  rw [hec, hat] at HC
  rw [hec] at hok ⊢
  clear hec hat
  replace hok := Lib.hid hok
  unfold sysV at *
  go_enter Try.func41, Try.ntmps41
  go_wp2_with fail
  refine (HC.out _ (by repeat (first | with_reducible exact Below.refl _ _ | with_reducible assumption | refine below_drewN ?_ _ | refine Below.drew ?_ | refine Below.alloc ?_ (by first | (simp; done) | (simp; omega) | omega) _ | refine Below.setCell ?_ (by first | (simp; done) | (simp; omega) | omega) _ | refine Below.trans ?_ (Below.mono (by assumption) (by first | (simp; done) | (simp; omega) | omega))))).mono ?_
  rintro e w1 ⟨rfl, hb1⟩
  have k0 : w1.cell? ⟨w.heap.size, 0, none⟩ = some (.int .i64 n) := kept1 (by simp [go_sem]) hb1
  have k1 : w1.cell? ⟨w.heap.size, 1, none⟩ = some (.slice a m cap) := kept1 (by simp [go_sem]) hb1
  have rX : ((w.alloc (Obj.cells #[.int .i64 n, .slice a m cap] 24)).alloc (Obj.cells #[.int .i64 0, .slice none 0 0] 24)).rowIs (w.heap.size + 1) 24 2 (fun i => if i = 0 then .int .i64 0 else .slice none 0 0) := by
    have h := sysRow (X := w.alloc (Obj.cells #[.int .i64 n, .slice a m cap] 24)) (n := 0) (p := none) (m := 0)
    simpa using h
  have rr := Lib.hid (rX.of_block (hb1.block _ rX.lt))
  have hz1 := hb1.size
  have hB1 : Below w.heap.size w w1 := (by repeat (first | with_reducible exact Below.refl _ _ | with_reducible assumption | refine below_drewN ?_ _ | refine Below.drew ?_ | refine Below.alloc ?_ (by first | (simp; done) | (simp; omega) | omega) _ | refine Below.setCell ?_ (by first | (simp; done) | (simp; omega) | omega) _ | refine Below.trans ?_ (Below.mono (by assumption) (by first | (simp; done) | (simp; omega) | omega))))
  have lw1 : w.heap.size + 2 ≤ w1.heap.size := by simp at hz1; omega
  clear hb1 rX HC hz1
  by_cases h0 : ec = 0
  · subst h0
    obtain ⟨n1, n2, hm3, hokk⟩ := hok.out rfl
    have hm4 : m ≤ 300 := by have := hm.out; omega
    have hmk2 := run_make_row' (P := Try.prog) 91 4 (.bool false) 1 Try.underlying91 infoBool rfl .i64 .i64 m (by omega) (by omega)
    clear hok hm3 hokk
    go_upto_region 5 with fail
    have rD : (w1.alloc (Obj.cells (madeCells #[.bool false] m) 4)).rowIs w1.heap.size 4 m (fun j => .bool (decide ((j : Int) ∈ l.take 0))) := (World.rowIs_made w1 (.bool false) m 4).congr (fun i hi => by simp)
    have bY : Below w.heap.size w (w1.alloc (Obj.cells (madeCells #[.bool false] m) 4)) := below_alloc hB1 _
    have c0 := Lib.hid (cell_alloc k0 (Obj.cells (madeCells #[.bool false] m) 4))
    have c1 := Lib.hid (cell_alloc k1 (Obj.cells (madeCells #[.bool false] m) 4))
    have rR := Lib.hid (rr.out.alloc (Obj.cells (madeCells #[.bool false] m) 4))
    have zY : (w1.alloc (Obj.cells (madeCells #[.bool false] m) 4)).heap.size = w1.heap.size + 1 := by simp
    replace rD := Lib.hid rD
    replace bY := Lib.hid bY
    replace zY := Lib.hid zY
    clear k0 k1 rr hB1 hmk2
    generalize w1.alloc (Obj.cells (madeCells #[.bool false] m) 4) = Y at *
    generalize w1.heap.size = db at *
    have hB0 := Lib.hid (But.refl (fun g => g = db) Y)
    go_wp2
    go_loopw [29] (fun i wr => ∃ k : Nat, k ≤ q ∧ i = .int .i64 k ∧ Hid (wr.rowIs db 4 m (fun j => .bool (decide ((j : Int) ∈ l.take k)))) ∧ Hid (But (fun g => g = db) Y wr)) (fun i _ => q - (RowKit.intOf i).toNat)
    case atStart => exact ⟨0, Nat.zero_le _, rfl, rD, hB0⟩
    case round =>
      clear rD hB0
      obtain ⟨k, hk, rfl, hR, hBu⟩ := hrel
      have hbW := Lib.hid (bY.out.trans (hBu.out.below bY.out.size (fun k hk e => by omega)))
      by_cases hlt : k < q
      · have hkl : k < l.length := by have := hq.out; omega
        have hi5 : (k : Int) < (q : Int) := by omega
        have hi6 : (0 : Int) ≤ (k : Int) := by omega
        obtain ⟨x, rfl, hx⟩ := hl.out k hkl
        have hx2 := kept1 hx hbW.out
        have hnx : l.take (k + 1) = l.take k ++ [l.getD k 0] := by
          rw [List.take_succ_eq_append_getElem hkl]
          congr 2
          rw [List.getD, List.getElem?_eq_getElem hkl]; rfl
        obtain ⟨z, hz⟩ : ∃ z, l.getD k 0 = z := ⟨_, rfl⟩
        rw [hz] at hx2 hnx
        have HV := isIndex_any z m
        cases hv : Ch.isIx z m
        · rw [hv] at HV
          have hno : ∀ j : Nat, j < m → (j : Int) ≠ z := fun j hj e => by
            subst e
            unfold Ch.isIx at hv
            simp at hv
            omega
          have hR2 := Lib.hid (hR.out.congr (g := fun j => .bool (decide ((j : Int) ∈ l.take (k + 1)))) (fun j hj => by
            rw [hnx]
            have e : decide ((j : Int) ∈ l.take k ++ [z]) = decide ((j : Int) ∈ l.take k) := by
              rw [decide_eq_decide, List.mem_append, List.mem_singleton]
              exact ⟨fun h => h.elim id (fun h => absurd h (hno j hj)), .inl⟩
            rw [e]))
          replace HV := Lib.hid HV
          clear hR hnx hz hv hno hx
          go_wp2_with fail
          refine (HV.out _).mono ?_
          rintro e w2 ⟨rfl, hb2⟩
          subst hb2
          go_wp2
          go_roundw
          case rel => exact ⟨k + 1, by omega, by go_num, hR2, hBu⟩
          case measure => show q - ((k : Int) + 1).toNat < q - (k : Int).toNat; omega
        · rw [hv] at HV
          obtain ⟨i, rfl⟩ : ∃ i : Nat, z = (i : Int) := ⟨z.toNat, by unfold Ch.isIx at hv; simp at hv; omega⟩
          have him : i < m := by unfold Ch.isIx at hv; simp at hv; omega
          have hi7 : (i : Int) < (m : Int) := by omega
          have hi8 : (0 : Int) ≤ (i : Int) := by omega
          have cd := hR.out.cell (i := i) him
          have fd := hR.out.frozen i
          have hR2 := Lib.hid ((hR.out.set i (.bool true)).congr (g := fun j => .bool (decide ((j : Int) ∈ l.take (k + 1)))) (fun j hj => by
            rw [hnx]
            by_cases e : j = i
            · subst e
              have e2 : decide ((j : Int) ∈ l.take k ++ [(j : Int)]) = true := decide_eq_true (by simp)
              rw [if_pos rfl, e2]
            · have e2 : decide ((j : Int) ∈ l.take k ++ [(i : Int)]) = decide ((j : Int) ∈ l.take k) := by
                rw [decide_eq_decide, List.mem_append, List.mem_singleton]
                exact ⟨fun h => h.elim id (fun h => absurd h (by omega)), .inl⟩
              rw [if_neg e, e2]))
          have hBu2 := Lib.hid (hBu.out.setCell (p := ⟨db, i, none⟩) (.inr rfl) (.bool true))
          replace HV := Lib.hid HV
          clear hR hnx hz hv hx hBu
          generalize decide ((i : Int) ∈ l.take k) = old at cd
          go_wp2_with fail
          refine (HV.out _).mono ?_
          rintro e w2 ⟨rfl, hb2⟩
          subst hb2
          go_wp2
          go_roundw
          case rel => exact ⟨k + 1, by omega, by go_num, hR2, hBu2⟩
          case measure => show q - ((k : Int) + 1).toNat < q - (k : Int).toNat; omega
      · obtain rfl : k = q := by omega
        have hi5 : ¬ (k : Int) < (k : Int) := by omega
        have htk : l.take k = l := List.take_of_length_le (by have := hq.out; omega)
        rw [htk] at hR
        have d0 := (hBu.out.cell (p := ⟨w.heap.size, 0, none⟩) (block_lt_of_cell c0.out) (by show ¬ w.heap.size = db; omega)).trans c0.out
        have d1 := (hBu.out.cell (p := ⟨w.heap.size, 1, none⟩) (block_lt_of_cell c1.out) (by show ¬ w.heap.size = db; omega)).trans c1.out
        have rQ := Lib.hid (rR.out.of_block (hBu.out.block _ rR.out.lt (by show ¬ w.heap.size + 1 = db; omega)))
        have hdb : db < wr.heap.size := hR.out.lt
        clear htk
        go_upto_region 12 with fail
        have rO : (wr.alloc (Obj.cells #[.int .i64 n, .slice none 0 0] 24)).rowIs wr.heap.size 24 2 (fun i => if i = 0 then .int .i64 n else .slice none 0 0) := sysRow (X := wr) (n := n) (p := none) (m := 0)
        have e0 := Lib.hid (cell_alloc d0 (Obj.cells #[.int .i64 n, .slice none 0 0] 24))
        have e1 := Lib.hid (cell_alloc d1 (Obj.cells #[.int .i64 n, .slice none 0 0] 24))
        have rZ := Lib.hid (rQ.out.alloc (Obj.cells #[.int .i64 n, .slice none 0 0] 24))
        have hRZ := Lib.hid (hR.out.alloc (Obj.cells #[.int .i64 n, .slice none 0 0] 24))
        have bZ := Lib.hid (below_alloc hbW.out (Obj.cells #[.int .i64 n, .slice none 0 0] 24))
        have zZ : (wr.alloc (Obj.cells #[.int .i64 n, .slice none 0 0] 24)).heap.size = wr.heap.size + 1 := by simp
        have hWO := Lib.hid (WO.mk (Y := wr.alloc (Obj.cells #[.int .i64 n, .slice none 0 0] 24)) (W := wr.alloc (Obj.cells #[.int .i64 n, .slice none 0 0] 24)) (ob := wr.heap.size) (n := n) (v := .slice none 0 0) (pre := []) rO (World.ownsRow_nil _ _ _ _) (But.refl _ _) (by omega))
        replace zZ := Lib.hid zZ
        have hwo : w.heap.size + 1 < wr.heap.size := by omega
        clear rO d0 d1 rQ hR hbW hBu c0 c1 rR bY zY
        generalize wr.alloc (Obj.cells #[.int .i64 n, .slice none 0 0] 24) = Z at *
        generalize wr.heap.size = ob at *
        have f1 := e1.out
        go_wp2
        clear f1
        go_loopw [47] (fun i W2 => ∃ (k2 : Nat) (v : Value), k2 ≤ m ∧ i = .int .i64 k2 ∧ Hid (WO Z W2 ob n v (Ch.wo L l k2))) (fun i _ => m - (RowKit.intOf i).toNat)
        case atStart => exact ⟨0, _, Nat.zero_le _, rfl, hWO⟩
        case round =>
          clear hWO
          obtain ⟨j, v, hj, rfl, HO⟩ := hrel
          have hbA := Lib.hid (bZ.out.trans (HO.out.b.below bZ.out.size (fun k hk e => by omega)))
          have hZs : ob < Z.heap.size := HO.out.lt
          by_cases hlt : j < m
          · have hi5 : (j : Int) < (m : Int) := by omega
            have hi6 : (0 : Int) ≤ (j : Int) := by omega
            obtain ⟨y, hy, hl3⟩ := hL.out j (by have := hm.out; omega)
            subst hy
            have ⟨g0, g1, g2⟩ := hl3.below hbA.out
            have hhit := Ch.wo_hit (L := L) (which := l) (j := j)
            have hmiss := Ch.wo_miss (L := L) (which := l) (j := j)
            obtain ⟨f, t, mo, hlk⟩ : ∃ f t mo, L.getD j Ch.noLk = ⟨f, t, mo⟩ := ⟨_, _, _, rfl⟩
            rw [hlk] at g0 g1 g2 hhit
            simp only at g0 g1 g2
            have cd := (HO.out.b.cell (p := ⟨db, j, none⟩) (by show db < _; omega) (by show ¬ db = ob; omega)).trans (hRZ.out.cell (i := j) hlt)
            have hlen := Ch.wo_len L l j
            clear hl3 hlk
            cases hd : decide ((j : Int) ∈ l)
            · rw [hd] at cd
              replace hhit := Lib.hid (hhit hd)
              clear hd hmiss
              have o1 : wr.cell? ⟨ob, 1, none⟩ = some v := HO.out.r.cell (i := 1) (by omega)
              have hown := HO.out.o
              have hbs := HO.out.b.size
              have cdA := cell_alloc cd (Obj.cells #[.int .i64 f, .int .i64 t, .int .i64 mo] 58)
              have o1A := cell_alloc o1 (Obj.cells #[.int .i64 f, .int .i64 t, .int .i64 mo] 58)
              go_wp2_with (first
                | (refine wpList_append_lks rfl (.tmp 58) (.tmp 60) rfl Z.heap.size v (Ch.wo L l j).length (Ch.wo L l j) rfl ((hown.alloc _).alloc _) (some ⟨wr.heap.size + 1, 0, none⟩) 1 1 [⟨f, t, mo⟩] rfl rfl ?hlks ?hnn ?c1 ?c2 ?_) | fail)
              case hlks =>
                have h := lks_one (wr.alloc (Obj.cells #[.int .i64 f, .int .i64 t, .int .i64 mo] 58)) f t mo
                simpa using h
              case hnn => exact fun h => by cases h
              case c1 => omega
              case c2 => simp; omega
              intro v' w4 hown' hgrow
              obtain ⟨p4, cp4, rfl, _⟩ := owns_slice hown'
              have hb2 : Below wr.heap.size wr ((wr.alloc (Obj.cells #[.int .i64 f, .int .i64 t, .int .i64 mo] 58)).alloc (Obj.cells #[.int .i64 f, .int .i64 t, .int .i64 mo] 58)) := below_alloc (below_alloc (Below.refl _ _) _) _
              obtain ⟨HP, r2⟩ := HO.out.push hb2 hgrow hown'
              have t1 := r2.cell (i := 1) (by omega)
              have tz1 := r2.frozen 1
              simp only [Nat.one_ne_zero, if_false] at t1
              replace HP := Lib.hid HP
              clear hown' hgrow hown r2 hb2 HO hbA cd cdA o1 o1A g0 g1 g2
              go_wp2
              go_roundw
              case rel => exact ⟨j + 1, _, by omega, by go_num, Lib.hid (by rw [hhit.out]; exact HP.out)⟩
              case measure => show m - ((j : Int) + 1).toNat < m - (j : Int).toNat; omega
            · rw [hd] at cd
              replace hmiss := Lib.hid (hmiss hd)
              have cdA := cell_alloc cd (Obj.cells #[.int .i64 f, .int .i64 t, .int .i64 mo] 58)
              clear hd hhit
              go_wp2
              go_roundw
              case rel => exact ⟨j + 1, v, by omega, by go_num, Lib.hid (by rw [hmiss.out]; exact HO.out.drewN ((Below.refl _ _).alloc (Nat.le_refl _) _))⟩
              case measure => show m - ((j : Int) + 1).toNat < m - (j : Int).toNat; omega
          · obtain rfl : j = m := by omega
            have hi5 : ¬ (j : Int) < (j : Int) := by omega
            obtain ⟨p9, cp9, hv9, _⟩ := owns_slice HO.out.o
            subst hv9
            have o0 : wr.cell? ⟨ob, 0, none⟩ = some (.int .i64 n) := HO.out.r.cell (i := 0) (by omega)
            have o1 : wr.cell? ⟨ob, 1, none⟩ = some (.slice p9 (Ch.wo L l j).length cp9) := HO.out.r.cell (i := 1) (by omega)
            have rr2 := Lib.hid (rZ.out.of_block (HO.out.b.block _ rZ.out.lt (by show ¬ w.heap.size + 1 = ob; omega)))
            have t0 := rr2.out.cell (i := 0) (by omega)
            have t1 := rr2.out.cell (i := 1) (by omega)
            have tz0 := rr2.out.frozen 0
            have tz1 := rr2.out.frozen 1
            simp only [if_true, Nat.one_ne_zero, if_false] at t0 t1
            have q0 : ((wr.setCell ⟨w.heap.size + 1, 0, none⟩ (.int .i64 n)).setCell ⟨w.heap.size + 1, 1, none⟩ (.slice p9 (Ch.wo L l j).length cp9)).cell? ⟨w.heap.size + 1, 0, none⟩ = some (.int .i64 n) := ((rr2.out.set 0 _).set 1 _).cell (i := 0) (by omega)
            have q1 : ((wr.setCell ⟨w.heap.size + 1, 0, none⟩ (.int .i64 n)).setCell ⟨w.heap.size + 1, 1, none⟩ (.slice p9 (Ch.wo L l j).length cp9)).cell? ⟨w.heap.size + 1, 1, none⟩ = some (.slice p9 (Ch.wo L l j).length cp9) := ((rr2.out.set 0 _).set 1 _).cell (i := 1) (by omega)
            have hB4 : Below w.heap.size w ((wr.setCell ⟨w.heap.size + 1, 0, none⟩ (.int .i64 n)).setCell ⟨w.heap.size + 1, 1, none⟩ (.slice p9 (Ch.wo L l j).length cp9)) := (hbA.out.setCell (p := ⟨w.heap.size + 1, 0, none⟩) (by simp) (.int .i64 n)).setCell (p := ⟨w.heap.size + 1, 1, none⟩) (by simp) _
            have hown := Lib.hid (owns_base (base' := w.heap.size) (owns_but HO.out.o (((But.refl (fun g => g = w.heap.size + 1) wr).setCell (p := ⟨w.heap.size + 1, 0, none⟩) (.inr rfl) (.int .i64 n)).setCell (p := ⟨w.heap.size + 1, 1, none⟩) (.inr rfl) (.slice p9 (Ch.wo L l j).length cp9)) (fun g hg e => by have := owns_far HO.out.o hg; omega)) bZ.out.size)
            clear HO
            go_wp2
            clear t0 t1 tz0 tz1 rr2 o0 o1
            generalize (wr.setCell ⟨w.heap.size + 1, 0, none⟩ (.int .i64 n)).setCell ⟨w.heap.size + 1, 1, none⟩ (.slice p9 (Ch.wo L l j).length cp9) = W at *
            refine bodyPost_ret (v := (.tuple #[.agg #[.int .i64 n, .slice p9 (Ch.wo L l j).length cp9], .int .i64 0])) (by simp [results, Try.results41, go_sem, q0, q1]) rfl ?_
            exact ⟨n, _, rfl, fun h => absurd rfl h, fun _ => ⟨rfl, hown.out⟩, hB4⟩
  · have r0 := rr.out.cell (i := 0) (by omega)
    have r1 := rr.out.cell (i := 1) (by omega)
    have rz0 := rr.out.frozen 0
    have rz1 := rr.out.frozen 1
    simp only [if_true, Nat.one_ne_zero, if_false] at r0 r1
    have q0 : ((w1.setCell ⟨w.heap.size + 1, 0, none⟩ (.int .i64 0)).setCell ⟨w.heap.size + 1, 1, none⟩ (.slice none 0 0)).cell? ⟨w.heap.size + 1, 0, none⟩ = some (.int .i64 0) := ((rr.out.set 0 _).set 1 _).cell (i := 0) (by omega)
    have q1 : ((w1.setCell ⟨w.heap.size + 1, 0, none⟩ (.int .i64 0)).setCell ⟨w.heap.size + 1, 1, none⟩ (.slice none 0 0)).cell? ⟨w.heap.size + 1, 1, none⟩ = some (.slice none 0 0) := ((rr.out.set 0 _).set 1 _).cell (i := 1) (by omega)
    have hB2 := (hB1.setCell (p := ⟨w.heap.size + 1, 0, none⟩) (by simp) (.int .i64 0)).setCell (p := ⟨w.heap.size + 1, 1, none⟩) (by simp) (.slice none 0 0)
    go_wp2
    clear r0 r1 rz0 rz1 rr
    generalize (w1.setCell ⟨w.heap.size + 1, 0, none⟩ (.int .i64 0)).setCell ⟨w.heap.size + 1, 1, none⟩ (.slice none 0 0) = W at *
    refine bodyPost_ret (v := (.tuple #[.agg #[.int .i64 0, .slice none 0 0], .int .i64 ec])) (by simp [results, Try.results41, go_sem, q0, q1]) rfl ?_
    exact ⟨0, _, rfl, fun _ => ⟨rfl, rfl⟩, fun h => absurd h h0, hB2⟩
end Go.Proofs.Ytkcchangkhklcaa
