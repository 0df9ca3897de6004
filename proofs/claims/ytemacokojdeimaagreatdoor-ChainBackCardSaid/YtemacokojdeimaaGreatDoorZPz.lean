/- chain.Parse. -/
import Derived.Test.YtemacokojdeimaaGreatDoorZRx
set_option linter.unusedSimpArgs false
set_option linter.unusedVariables false
namespace Go.Proofs.YtemacokojdeimaaGreatDoor
open Go.RowKit

/-- what Parse leaves -/
def PsPost (w : World) (r : Option (Int × List Ch.Lk)) (e : Ending) (w' : World) : Prop :=
  Below w.heap.size w w' ∧ match r with
  | some x => ∃ v, e = .returned (.tuple #[.agg #[.int .i64 x.1, v], .int .i64 0]) ∧ Hid (w'.ownsRow w.heap.size 54 3 v x.2.length (lkCells x.2))
  | none => e = .returned (.tuple #[.agg #[.int .i64 0, .slice none 0 0], .int .i64 7])
theorem psPost_none (w : World) (e : Ending) (w' : World) (h : e = .returned (.tuple #[.agg #[.int .i64 0, .slice none 0 0], .int .i64 7])) (hb : Below w.heap.size w w') : PsPost w none e w' := ⟨hb, h⟩

set_option maxRecDepth 100000 in
set_option maxHeartbeats 8000000 in
theorem parse_any (s : ByteArray) (hs : s.size ≤ 1000000) (w : World) (V : Vars w) (hT : Hid (Tab w.heap.size w)) :
    Calls Tryz.prog 8 #[.string s] w (PsPost w (Tx.prs s.data.toList)) := by
  obtain ⟨r, hr⟩ : ∃ r, Tx.prs s.data.toList = r := ⟨_, rfl⟩
  rw [hr]
  unfold Tx.prs at hr
  have rX : Zr w.heap.size (w.alloc (Obj.cells #[.int .i64 0, .slice none 0 0] 24)) := sysRow
  have bX : Below w.heap.size w (w.alloc (Obj.cells #[.int .i64 0, .slice none 0 0] 24)) := below_alloc (Below.refl _ _) _
  have HR := Lib.hid (read_any s hs (w.alloc (Obj.cells #[.int .i64 0, .slice none 0 0] 24)) (V.on bX) (Lib.hid (Tab.mono (hT.out.on bX) bX.size)))
  replace rX := Lib.hid rX
  replace bX := Lib.hid bX
  replace hr := Lib.hid hr
  clear V
  go_enter Tryz.func8, Tryz.ntmps8
  go_upto_region 1 with fail
  generalize w.alloc (Obj.cells #[.int .i64 0, .slice none 0 0] 24) = X at *
  obtain ⟨q, hq⟩ : ∃ q, Tx.rdT s.data.toList = q := ⟨_, rfl⟩
  rw [hq] at HR hr
  clear hq
  cases q with
  | none =>
    have hr0 : r = none := hr.out.symm
    subst hr0
    clear hr
    go_wp2_with fail
    refine HR.out.mono ?_
    rintro e w2 ⟨hb2, rfl⟩
    have bX2 := Lib.hid (bX.out.trans (hb2.mono bX.out.size))
    have rX2 := Lib.hid (rX.out.below hb2)
    clear bX rX hb2 HR
    go_upto_region 2 with fail
    have bX3 := Lib.hid (below_alloc bX2.out (Obj.cells #[.int .i64 0, .slice none 0 0] 24))
    have rX3 := Lib.hid (rX2.out.below ((Below.refl _ _).alloc (Nat.le_refl _) (Obj.cells #[.int .i64 0, .slice none 0 0] 24)))
    clear bX2 rX2
    generalize w2.alloc (Obj.cells #[.int .i64 0, .slice none 0 0] 24) = W at *
    have t0 := rX3.out.c0
    have t1 := rX3.out.c1
    have tz0 := rX3.out.frozen 0
    have tz1 := rX3.out.frozen 1
    have q0 := rX3.out.zero.c0
    have q1 := rX3.out.zero.c1
    have hZ := zeroB bX3.out
    go_wp2
    clear t0 t1 tz0 tz1
    generalize (W.setCell ⟨w.heap.size, 0, none⟩ (.int .i64 0)).setCell ⟨w.heap.size, 1, none⟩ (.slice none 0 0) = Z at *
    refine bodyPost_ret (v := .tuple #[.agg #[.int .i64 0, .slice none 0 0], .int .i64 7]) (by simp [results, Tryz.results8, go_sem, q0, q1]) rfl ?_
    exact psPost_none _ _ _ rfl hZ
  | some x =>
    obtain ⟨n, L⟩ := x
    simp only at hr
    go_wp2_with fail
    refine HR.out.mono ?_
    rintro e w2 ⟨hb2, v, rfl, hown⟩
    have rX' := rX
    have bX2 := Lib.hid (bX.out.trans (hb2.mono bX.out.size))
    have rX2 := Lib.hid (rX.out.below hb2)
    have hXs := bX.out.size
    have hXl := block_lt_of_cell rX'.out.c0
    have ho2 := Lib.hid (owns_base (base' := w.heap.size + 1) hown.out hXl)
    clear bX rX rX' hb2 HR hown
    obtain ⟨a, cap, rfl, hL⟩ := lks_of_owns ho2.out
    replace hL := Lib.hid hL
    go_upto_region 2 with fail
    have hbA : Below w2.heap.size w2 (w2.alloc (Obj.cells #[.int .i64 n, .slice a L.length cap] 24)) := (Below.refl _ _).alloc (Nat.le_refl _) _
    have k0 : (w2.alloc (Obj.cells #[.int .i64 n, .slice a L.length cap] 24)).cell? ⟨w2.heap.size, 0, none⟩ = some (.int .i64 n) := by simp [go_sem]
    have k1 : (w2.alloc (Obj.cells #[.int .i64 n, .slice a L.length cap] 24)).cell? ⟨w2.heap.size, 1, none⟩ = some (.slice a L.length cap) := by simp [go_sem]
    have bX3 := Lib.hid (bX2.out.trans (hbA.mono bX2.out.size))
    have rX3 := Lib.hid (rX2.out.below hbA)
    have ho3 := Lib.hid (own_bel ho2.out hbA)
    have hL3 := Lib.hid (hL.out.below hbA)
    have hwl := block_lt_of_cell rX2.out.c0
    clear hbA bX2 rX2 ho2 hL
    generalize w2.alloc (Obj.cells #[.int .i64 n, .slice a L.length cap] 24) = W at *
    have HC := Lib.hid (check_any n a cap L W hL3.out)
    unfold sysV at HC
    generalize w2.heap.size = sb at *
    go_wp2_with fail
    refine HC.out.mono ?_
    rintro e w4 ⟨rfl, hb4⟩
    replace k0 := kept1 k0 hb4
    replace k1 := kept1 k1 hb4
    have bX4 := Lib.hid (bX3.out.trans (hb4.mono bX3.out.size))
    have rX4 := Lib.hid (rX3.out.below hb4)
    have ho4 := Lib.hid (own_bel ho3.out hb4)
    clear bX3 rX3 ho3 hL3 HC hb4
    generalize (Ch.check n L).2 = at1 at *
    obtain ⟨er, her⟩ : ∃ er, (Ch.check n L).1 = er := ⟨_, rfl⟩
    rw [her] at hr ⊢
    clear her
    have t0 := rX4.out.c0
    have t1 := rX4.out.c1
    have tz0 := rX4.out.frozen 0
    have tz1 := rX4.out.frozen 1
    by_cases h0 : er = 0
    · subst h0
      have hr0 : r = some (n, L) := by rw [← hr.out, if_pos rfl]
      subst hr0
      have q0 : ((w4.setCell ⟨w.heap.size, 0, none⟩ (.int .i64 n)).setCell ⟨w.heap.size, 1, none⟩ (.slice a L.length cap)).cell? ⟨w.heap.size, 0, none⟩ = some (.int .i64 n) := ((rX4.out.set 0 _).set 1 _).cell (i := 0) (by omega)
      have q1 : ((w4.setCell ⟨w.heap.size, 0, none⟩ (.int .i64 n)).setCell ⟨w.heap.size, 1, none⟩ (.slice a L.length cap)).cell? ⟨w.heap.size, 1, none⟩ = some (.slice a L.length cap) := ((rX4.out.set 0 _).set 1 _).cell (i := 1) (by omega)
      have hB4 : Below w.heap.size w ((w4.setCell ⟨w.heap.size, 0, none⟩ (.int .i64 n)).setCell ⟨w.heap.size, 1, none⟩ (.slice a L.length cap)) := (bX4.out.setCell (p := ⟨w.heap.size, 0, none⟩) (Nat.le_refl _) _).setCell (p := ⟨w.heap.size, 1, none⟩) (Nat.le_refl _) _
      have hown := Lib.hid (owns_base (base' := w.heap.size) (owns_but ho4.out (((But.refl (fun g => g = w.heap.size) w4).setCell (p := ⟨w.heap.size, 0, none⟩) (.inr rfl) (.int .i64 n)).setCell (p := ⟨w.heap.size, 1, none⟩) (.inr rfl) (.slice a L.length cap)) (fun g hg e => by have := owns_far ho4.out hg; omega)) (Nat.le_succ _))
      go_wp2
      clear t0 t1 tz0 tz1 k0 k1
      generalize (w4.setCell ⟨w.heap.size, 0, none⟩ (.int .i64 n)).setCell ⟨w.heap.size, 1, none⟩ (.slice a L.length cap) = Z at *
      refine bodyPost_ret (v := .tuple #[.agg #[.int .i64 n, .slice a L.length cap], .int .i64 0]) (by simp [results, Tryz.results8, go_sem, q0, q1]) rfl ?_
      exact ⟨hB4, _, rfl, hown⟩
    · have hr0 : r = none := by rw [← hr.out, if_neg h0]
      subst hr0
      have n0 : (er != 0) = true := by simpa using h0
      have q0 := rX4.out.zero.c0
      have q1 := rX4.out.zero.c1
      have hZ := zeroB bX4.out
      go_wp2
      clear t0 t1 tz0 tz1
      generalize (w4.setCell ⟨w.heap.size, 0, none⟩ (.int .i64 0)).setCell ⟨w.heap.size, 1, none⟩ (.slice none 0 0) = Z at *
      refine bodyPost_ret (v := .tuple #[.agg #[.int .i64 0, .slice none 0 0], .int .i64 7]) (by simp [results, Tryz.results8, go_sem, q0, q1]) rfl ?_
      exact psPost_none _ _ _ rfl hZ
end Go.Proofs.YtemacokojdeimaaGreatDoor
