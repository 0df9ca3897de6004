/- chain.read. -/
import Derived.Test.YtemacokojdeimaaGreatDoorZRl
import Derived.Test.YtemacokojdeimaaGreatDoorZWo
import Derived.Test.YtemacokojdeimaaGreatDoorZTy
set_option linter.unusedSimpArgs false
set_option linter.unusedVariables false
namespace Tx
open Go.Lib
theorem cut_len {s : List UInt8} : (cut s [10]).1.length ≤ s.length ∧ (cut s [10]).2.1.length ≤ s.length ∧ ((cut s [10]).2.2 = true → (cut s [10]).2.1.length < s.length) := by
  rcases byte_cases 10 s with h | ⟨a, b, rfl, h⟩
  · rw [cut_no h]; simp
  · rw [cut_at b h]; simp; omega
theorem rdGo_next {k : Nat} {R A R' : List UInt8} {en : Bool} {acc : List Ch.Lk} (hne : R ≠ []) (hc : cut R [10] = (A, R', en)) :
    rdGo (k + 1) R acc = match rl A linkB 3 with
      | some [f, t, m] => if en = true ∧ acc.length ≠ 300 then rdGo k R' (acc ++ [⟨f, t, m⟩]) else none
      | _ => none := by
  rw [rdGo, if_neg hne, hc]
  rfl
end Tx
namespace Go.Proofs.YtemacokojdeimaaGreatDoor
open Go.RowKit

theorem cut10_any (s : ByteArray) (hs : s.size ≤ 1000000) (W : World) (V : Vars W) :
    Calls Tryz.prog 55 #[.string s, .string ⟨#[10]⟩] W fun e w' => ∃ (A R : ByteArray) (en : Bool), e = .returned (.tuple #[.string A, .string R, .bool en]) ∧ Hid (Lib.cut s.data.toList [10] = (A.data.toList, R.data.toList, en)) ∧ Hid (A.size ≤ 1000000 ∧ R.size ≤ 1000000 ∧ (en = true → R.size < s.size)) ∧ Below W.heap.size W w' := by
  refine (cut_any s ⟨#[10]⟩ hs W V).mono ?_
  rintro e w' ⟨rfl, hb⟩
  obtain ⟨h1, h2, h3⟩ := Tx.cut_len (s := s.data.toList)
  have hz : s.data.toList.length = s.size := by simp
  have hA : ∀ l : List UInt8, (⟨l.toArray⟩ : ByteArray).size = l.length := fun l => by show l.toArray.size = _; simp
  refine ⟨_, _, _, rfl, Lib.hid rfl, Lib.hid ⟨?_, ?_, ?_⟩, hb⟩
  · rw [hA]; exact Nat.le_trans h1 (by omega)
  · rw [hA]; exact Nat.le_trans h2 (by omega)
  · intro h; rw [hA, ← hz]; exact h3 h

/-- what read leaves -/
def RdPost (w : World) (r : Option (Int × List Ch.Lk)) (e : Ending) (w' : World) : Prop :=
  Below w.heap.size w w' ∧ match r with
  | some x => ∃ v, e = .returned (.tuple #[.agg #[.int .i64 x.1, v], .bool true]) ∧ Hid (w'.ownsRow w.heap.size 54 3 v x.2.length (lkCells x.2))
  | none => e = .returned (.tuple #[.agg #[.int .i64 0, .slice none 0 0], .bool false])
theorem rdPost_none (w : World) (e : Ending) (w' : World) (h : e = .returned (.tuple #[.agg #[.int .i64 0, .slice none 0 0], .bool false])) (hb : Below w.heap.size w w') : RdPost w none e w' := ⟨hb, h⟩

/-- nothing has been put in -/
def Zr (rb : Nat) (W : World) : Prop := W.rowIs rb 24 2 (fun i => if i = 0 then .int .i64 0 else .slice none 0 0)
theorem Zr.below {rb : Nat} {W W' : World} (h : Zr rb W) (hb : Below W.heap.size W W') : Zr rb W' := Below.row hb h
theorem Zr.c0 {rb : Nat} {W : World} (h : Zr rb W) : W.cell? ⟨rb, 0, none⟩ = some (.int .i64 0) := h.cell (i := 0) (by omega)
theorem Zr.c1 {rb : Nat} {W : World} (h : Zr rb W) : W.cell? ⟨rb, 1, none⟩ = some (.slice none 0 0) := h.cell (i := 1) (by omega)

theorem own_lt {W : World} {base n size : Nat} {e : TypeId} {v : Value} {xs : List Value} (h : W.ownsRow base e size v n xs) {g : Nat} (hg : v.ownBlock = some g) : g < W.heap.size := by
  rcases h.2 with ⟨hv, _⟩ | ⟨g', cap, cur, hv, _, hgb, _⟩
  · rw [hv] at hg; cases hg
  · rw [hv] at hg
    obtain rfl : g' = g := by cases hg; rfl
    exact (Array.getElem?_eq_some_iff.1 hgb).1
theorem Zr.zero {rb : Nat} {W : World} (h : Zr rb W) : Zr rb ((W.setCell ⟨rb, 0, none⟩ (.int .i64 0)).setCell ⟨rb, 1, none⟩ (.slice none 0 0)) :=
  ((h.set 0 _).set 1 _).congr (fun i hi => by
    by_cases e : i = 1
    · subst e; simp
    · have : i = 0 := by omega
      subst this; simp)
theorem zeroB {w W : World} (h : Below w.heap.size w W) : Below w.heap.size w ((W.setCell ⟨w.heap.size, 0, none⟩ (.int .i64 0)).setCell ⟨w.heap.size, 1, none⟩ (.slice none 0 0)) :=
  (h.setCell (p := ⟨w.heap.size, 0, none⟩) (Nat.le_refl _) _).setCell (p := ⟨w.heap.size, 1, none⟩) (Nat.le_refl _) _

set_option maxRecDepth 100000 in
set_option maxHeartbeats 8000000 in
theorem read_any (s : ByteArray) (hs : s.size ≤ 1000000) (w : World) (V : Vars w) (hT : Hid (Tab w.heap.size w)) :
    Calls Tryz.prog 28 #[.string s] w (RdPost w (Tx.rdT s.data.toList)) := by
  obtain ⟨r, hr⟩ : ∃ r, Tx.rdT s.data.toList = r := ⟨_, rfl⟩
  rw [hr]
  unfold Tx.rdT at hr
  have V1 : Hid (∀ W : World, Below w.heap.size w W → Nonempty (Vars W)) := Lib.hid fun W hb => ⟨V.on hb⟩
  replace hr := Lib.hid hr
  clear V
  have rX : Zr w.heap.size (w.alloc (Obj.cells #[.int .i64 0, .slice none 0 0] 24)) := sysRow
  have bX : Below w.heap.size w (w.alloc (Obj.cells #[.int .i64 0, .slice none 0 0] 24)) := below_alloc (Below.refl _ _) _
  obtain ⟨V2⟩ := V1.out _ bX
  replace rX := Lib.hid rX
  replace bX := Lib.hid bX
  go_enter Tryz.func28, Tryz.ntmps28
  go_upto_region 1 with fail
  generalize w.alloc (Obj.cells #[.int .i64 0, .slice none 0 0] 24) = X at *
  go_wp2_with fail
  refine (cut10_any s hs X V2).mono ?_
  rintro e w1 ⟨A, R0, en, rfl, hcut, hz, hb1⟩
  rw [hcut.out] at hr
  simp only at hr
  have bX1 := Lib.hid (bX.out.trans (hb1.mono bX.out.size))
  have rX1 := Lib.hid (rX.out.below hb1)
  clear V2 hcut bX rX hb1
  obtain ⟨V2⟩ := V1.out _ bX1.out
  have HR := Lib.hid (readLine_any A ⟨#[110, 111, 100, 101, 115]⟩ 1 hz.out.1 (by decide) (by decide) w1 V2 (Lib.hid (Tab.mono (hT.out.on bX1.out) bX1.out.size)))
  obtain ⟨q, hq⟩ : ∃ q, Tx.rl A.data.toList Tx.nodesB 1 = q := ⟨_, rfl⟩
  have hqe : Tx.rl A.data.toList (⟨#[110, 111, 100, 101, 115]⟩ : ByteArray).data.toList 1 = q := hq
  rw [hqe] at HR
  rw [hq] at hr
  have hq3 : ∀ ns, q = some ns → ns.length = 1 := fun ns e => (Tx.rl_some (hq.trans e)).1
  clear V2 hq hqe
  cases q with
  | none =>
    have hr0 : r = none := hr.out.symm
    subst hr0
    clear hr hq3
    go_wp2_with fail
    refine HR.out.mono ?_
    rintro e w2 ⟨hb2, rfl⟩
    have bX2 := Lib.hid (bX1.out.trans (hb2.mono bX1.out.size))
    have rX2 := Lib.hid (rX1.out.below hb2)
    clear bX1 rX1 hb2
    cases en
    · have t0 := rX2.out.c0
      have t1 := rX2.out.c1
      have tz0 := rX2.out.frozen 0
      have tz1 := rX2.out.frozen 1
      have q0 := rX2.out.zero.c0
      have q1 := rX2.out.zero.c1
      have hZ := zeroB bX2.out
      go_wp2
      clear t0 t1 tz0 tz1
      generalize (w2.setCell ⟨w.heap.size, 0, none⟩ (.int .i64 0)).setCell ⟨w.heap.size, 1, none⟩ (.slice none 0 0) = Z at *
      refine bodyPost_ret (v := .tuple #[.agg #[.int .i64 0, .slice none 0 0], .bool false]) (by simp [results, Tryz.results28, go_sem, q0, q1]) rfl ?_
      exact rdPost_none _ _ _ rfl hZ
    · have t0 := rX2.out.c0
      have t1 := rX2.out.c1
      have tz0 := rX2.out.frozen 0
      have tz1 := rX2.out.frozen 1
      have q0 := rX2.out.zero.c0
      have q1 := rX2.out.zero.c1
      have hZ := zeroB bX2.out
      go_wp2
      clear t0 t1 tz0 tz1
      generalize (w2.setCell ⟨w.heap.size, 0, none⟩ (.int .i64 0)).setCell ⟨w.heap.size, 1, none⟩ (.slice none 0 0) = Z at *
      refine bodyPost_ret (v := .tuple #[.agg #[.int .i64 0, .slice none 0 0], .bool false]) (by simp [results, Tryz.results28, go_sem, q0, q1]) rfl ?_
      exact rdPost_none _ _ _ rfl hZ
  | some ns =>
    obtain ⟨n, rfl⟩ : ∃ n, ns = [n] := List.length_eq_one_iff.1 (hq3 _ rfl)
    clear hq3
    cases en
    · have hr0 : r = none := hr.out.symm
      subst hr0
      clear hr
      go_wp2_with fail
      refine HR.out.mono ?_
      rintro e w2 ⟨hb2, g, cp, rfl, hg, hcs⟩
      have bX2 := Lib.hid (bX1.out.trans (hb2.mono bX1.out.size))
      have rX2 := Lib.hid (rX1.out.below hb2)
      clear bX1 rX1 hb2 hg hcs
      have t0 := rX2.out.c0
      have t1 := rX2.out.c1
      have tz0 := rX2.out.frozen 0
      have tz1 := rX2.out.frozen 1
      have q0 := rX2.out.zero.c0
      have q1 := rX2.out.zero.c1
      have hZ := zeroB bX2.out
      go_wp2
      clear t0 t1 tz0 tz1
      generalize (w2.setCell ⟨w.heap.size, 0, none⟩ (.int .i64 0)).setCell ⟨w.heap.size, 1, none⟩ (.slice none 0 0) = Z at *
      refine bodyPost_ret (v := .tuple #[.agg #[.int .i64 0, .slice none 0 0], .bool false]) (by simp [results, Tryz.results28, go_sem, q0, q1]) rfl ?_
      exact rdPost_none _ _ _ rfl hZ
    · have hr2 : Hid (r = (Tx.rdGo (R0.data.toList.length + 1) R0.data.toList []).map fun L => (n, L)) := Lib.hid hr.out.symm
      clear hr
      go_wp2_with fail
      refine HR.out.mono ?_
      rintro e w2 ⟨hb2, g, cp, rfl, hg, hcs⟩
      have bX2 := bX1.out.trans (hb2.mono bX1.out.size)
      have rX2 := rX1.out.below hb2
      have hcn : w2.cell? ⟨g, 0, none⟩ = some (.int .i64 n) := hcs.out 0 (by simp)
      have lX2 := block_lt_of_cell rX2.c0
      clear bX1 rX1 hb2 hcs hg HR
      go_upto_region 6 with fail
      have rY : (w2.alloc (Obj.cells #[.int .i64 n, .slice none 0 0] 24)).rowIs w2.heap.size 24 2 (fun i => if i = 0 then .int .i64 n else .slice none 0 0) := sysRow
      have zY : (w2.alloc (Obj.cells #[.int .i64 n, .slice none 0 0] 24)).heap.size = w2.heap.size + 1 := by simp
      have bY := Lib.hid (below_alloc bX2 (Obj.cells #[.int .i64 n, .slice none 0 0] 24))
      have rZ := Lib.hid (rX2.below ((Below.refl _ _).alloc (Nat.le_refl _) (Obj.cells #[.int .i64 n, .slice none 0 0] 24)))
      generalize w2.alloc (Obj.cells #[.int .i64 n, .slice none 0 0] 24) = Y at *
      have hlt9 : w.heap.size < w2.heap.size := lX2
      obtain ⟨ob, hob⟩ : ∃ ob, w2.heap.size = ob := ⟨_, rfl⟩
      rw [hob] at hlt9 rY zY ⊢
      have hWO := Lib.hid (WO.mk (Y := Y) (W := Y) (ob := ob) (n := n) (v := .slice none 0 0) (pre := []) rY (World.ownsRow_nil _ _ _ _) (But.refl _ _) (by omega))
      have hR0 := hz.out.2.1
      clear hcn lX2 bX2 rX2 rY hob hz
      go_wp2
      go_loopw [5] (fun rest wr => ∃ (R : ByteArray) (acc : List Ch.Lk) (v : Value) (k : Nat), rest = .string R ∧ R.size ≤ 1000000 ∧ Hid (R.data.toList.length < k) ∧ Hid (acc.length ≤ 300) ∧ Hid (WO Y wr ob n v acc) ∧ Hid (r = (Tx.rdGo k R.data.toList acc).map fun L => (n, L))) (fun rest _ => (match rest with | .string R => R.size | _ => 0))
      case atStart => exact ⟨R0, [], .slice none 0 0, _, rfl, hR0, Lib.hid (Nat.lt_succ_self _), Lib.hid (by simp), hWO, hr2⟩
      case round =>
        clear hWO hr2 hR0
        obtain ⟨R, acc, v, k, rfl, hR, hk, ha, HO, hrr⟩ := hrel
        have bX := Lib.hid (bY.out.trans (HO.out.b.below bY.out.size (fun k hk e => by omega)))
        have rX := Lib.hid (show Zr w.heap.size wr from rZ.out.of_block (HO.out.b.block _ rZ.out.lt (by show ¬ w.heap.size = ob; omega)))
        have hzR : R.data.toList.length = R.size := by simp
        by_cases hne : R.data.toList = []
        · have hRe : R = ⟨#[]⟩ := ByteArray.ext (Array.ext' hne)
          subst hRe
          have hr0 : r = some (n, acc) := by
            rw [hrr.out]
            obtain ⟨k, rfl⟩ : ∃ j, k = j + 1 := ⟨k - 1, by have := hk.out; omega⟩
            rfl
          subst hr0
          obtain ⟨p9, cp9, hv9, _⟩ := owns_slice HO.out.o
          subst hv9
          have o0 : wr.cell? ⟨ob, 0, none⟩ = some (.int .i64 n) := HO.out.r.cell (i := 0) (by omega)
          have o1 : wr.cell? ⟨ob, 1, none⟩ = some (.slice p9 acc.length cp9) := HO.out.r.cell (i := 1) (by omega)
          have t0 := rX.out.c0
          have t1 := rX.out.c1
          have tz0 := rX.out.frozen 0
          have tz1 := rX.out.frozen 1
          have q0 : ((wr.setCell ⟨w.heap.size, 0, none⟩ (.int .i64 n)).setCell ⟨w.heap.size, 1, none⟩ (.slice p9 acc.length cp9)).cell? ⟨w.heap.size, 0, none⟩ = some (.int .i64 n) := ((rX.out.set 0 _).set 1 _).cell (i := 0) (by omega)
          have q1 : ((wr.setCell ⟨w.heap.size, 0, none⟩ (.int .i64 n)).setCell ⟨w.heap.size, 1, none⟩ (.slice p9 acc.length cp9)).cell? ⟨w.heap.size, 1, none⟩ = some (.slice p9 acc.length cp9) := ((rX.out.set 0 _).set 1 _).cell (i := 1) (by omega)
          have hB4 : Below w.heap.size w ((wr.setCell ⟨w.heap.size, 0, none⟩ (.int .i64 n)).setCell ⟨w.heap.size, 1, none⟩ (.slice p9 acc.length cp9)) := (bX.out.setCell (p := ⟨w.heap.size, 0, none⟩) (Nat.le_refl _) _).setCell (p := ⟨w.heap.size, 1, none⟩) (Nat.le_refl _) _
          have hYs := bY.out.size
          have hown := Lib.hid (owns_base (base' := w.heap.size) (owns_but HO.out.o (((But.refl (fun g => g = w.heap.size) wr).setCell (p := ⟨w.heap.size, 0, none⟩) (.inr rfl) (.int .i64 n)).setCell (p := ⟨w.heap.size, 1, none⟩) (.inr rfl) (.slice p9 acc.length cp9)) (fun g hg e => by have := owns_far HO.out.o hg; have := HO.out.lt; omega)) hYs)
          clear HO hrr
          go_wp2
          clear t0 t1 tz0 tz1 o0 o1
          generalize (wr.setCell ⟨w.heap.size, 0, none⟩ (.int .i64 n)).setCell ⟨w.heap.size, 1, none⟩ (.slice p9 acc.length cp9) = Z at *
          refine bodyPost_ret (v := .tuple #[.agg #[.int .i64 n, .slice p9 acc.length cp9], .bool true]) (by simp [results, Tryz.results28, go_sem, q0, q1]) rfl ?_
          exact ⟨hB4, _, rfl, hown⟩
        · have hnb : R.toList.isEmpty = false := by rw [ByteArray.toList_eq]; simpa using hne
          obtain ⟨k, rfl⟩ : ∃ j, k = j + 1 := ⟨k - 1, by have := hk.out; omega⟩
          obtain ⟨V2⟩ := V1.out _ bX.out
          have bXs := bX.out.size
          go_wp2_with fail
          refine (cut10_any R hR wr V2).mono ?_
          rintro e w3 ⟨A, R', en, rfl, hcut, hz, hb3⟩
          have hnx := Tx.rdGo_next (k := k) (acc := acc) hne hcut.out
          rw [hnx] at hrr
          have HO3 := Lib.hid (HO.out.drewN hb3)
          have bX3 := Lib.hid (bX.out.trans (hb3.mono bX.out.size))
          have rX3 := Lib.hid (rX.out.below hb3)
          have hw3 := hb3.size
          clear V2 hcut bX rX hb3 hnx hnb hne
          obtain ⟨V2⟩ := V1.out _ bX3.out
          have HR := Lib.hid (readLine_any A ⟨#[108, 105, 110, 107]⟩ 3 hz.out.1 (by decide) (by decide) w3 V2 (Lib.hid (Tab.mono (hT.out.on bX3.out) bX3.out.size)))
          obtain ⟨q, hq⟩ : ∃ q, Tx.rl A.data.toList Tx.linkB 3 = q := ⟨_, rfl⟩
          have hqe : Tx.rl A.data.toList (⟨#[108, 105, 110, 107]⟩ : ByteArray).data.toList 3 = q := hq
          rw [hqe] at HR
          rw [hq] at hrr
          have hq3 : ∀ ns, q = some ns → ns.length = 3 := fun ns e => (Tx.rl_some (hq.trans e)).1
          clear V2 hq hqe
          have hownlt : Hid (∀ x, v.ownBlock = some x → x < wr.heap.size) := Lib.hid (fun x hx => own_lt HO.out.o hx)
          obtain ⟨p9, cp9, hv9, _⟩ := owns_slice HO3.out.o
          subst hv9
          clear HO
          cases q with
          | none =>
            have hr0 : r = none := hrr.out
            subst hr0
            clear hrr hq3
            go_wp2_with fail
            refine HR.out.mono ?_
            rintro e w4 ⟨hb4, rfl⟩
            have bX4 := Lib.hid (bX3.out.trans (hb4.mono bX3.out.size))
            have rX4 := Lib.hid (rX3.out.below hb4)
            clear bX3 rX3 HO3 hb4
            cases en
            · have t0 := rX4.out.c0
              have t1 := rX4.out.c1
              have tz0 := rX4.out.frozen 0
              have tz1 := rX4.out.frozen 1
              have q0 := rX4.out.zero.c0
              have q1 := rX4.out.zero.c1
              have hZ := zeroB bX4.out
              go_wp2
              clear t0 t1 tz0 tz1
              generalize (w4.setCell ⟨w.heap.size, 0, none⟩ (.int .i64 0)).setCell ⟨w.heap.size, 1, none⟩ (.slice none 0 0) = Z at *
              refine bodyPost_ret (v := .tuple #[.agg #[.int .i64 0, .slice none 0 0], .bool false]) (by simp [results, Tryz.results28, go_sem, q0, q1]) rfl ?_
              exact rdPost_none _ _ _ rfl hZ
            · have t0 := rX4.out.c0
              have t1 := rX4.out.c1
              have tz0 := rX4.out.frozen 0
              have tz1 := rX4.out.frozen 1
              have q0 := rX4.out.zero.c0
              have q1 := rX4.out.zero.c1
              have hZ := zeroB bX4.out
              go_wp2
              clear t0 t1 tz0 tz1
              generalize (w4.setCell ⟨w.heap.size, 0, none⟩ (.int .i64 0)).setCell ⟨w.heap.size, 1, none⟩ (.slice none 0 0) = Z at *
              refine bodyPost_ret (v := .tuple #[.agg #[.int .i64 0, .slice none 0 0], .bool false]) (by simp [results, Tryz.results28, go_sem, q0, q1]) rfl ?_
              exact rdPost_none _ _ _ rfl hZ
          | some ns =>
            obtain ⟨f, t, mo, rfl⟩ : ∃ f t mo, ns = [f, t, mo] := by
              have h3 := hq3 _ rfl
              match ns, h3 with
              | [f, t, mo], _ => exact ⟨f, t, mo, rfl⟩
            clear hq3
            simp only at hrr
            go_wp2_with fail
            refine HR.out.mono ?_
            rintro e w4 ⟨hb4, g, cp, rfl, hg, hcs⟩
            have bX4 := Lib.hid (bX3.out.trans (hb4.mono bX3.out.size))
            have rX4 := Lib.hid (rX3.out.below hb4)
            have HO4 := Lib.hid (HO3.out.drewN hb4)
            clear bX3 rX3 HO3 hb4 HR
            cases en
            · have hr0 : r = none := hrr.out
              subst hr0
              clear hrr
              have t0 := rX4.out.c0
              have t1 := rX4.out.c1
              have tz0 := rX4.out.frozen 0
              have tz1 := rX4.out.frozen 1
              have q0 := rX4.out.zero.c0
              have q1 := rX4.out.zero.c1
              have hZ := zeroB bX4.out
              go_wp2
              clear t0 t1 tz0 tz1
              generalize (w4.setCell ⟨w.heap.size, 0, none⟩ (.int .i64 0)).setCell ⟨w.heap.size, 1, none⟩ (.slice none 0 0) = Z at *
              refine bodyPost_ret (v := .tuple #[.agg #[.int .i64 0, .slice none 0 0], .bool false]) (by simp [results, Tryz.results28, go_sem, q0, q1]) rfl ?_
              exact rdPost_none _ _ _ rfl hZ
            · by_cases h300 : acc.length = 300
              · have hr0 : r = none := by rw [hrr.out, if_neg (fun h => h.2 h300)]; rfl
                subst hr0
                have o1 : w4.cell? ⟨ob, 1, none⟩ = some (.slice p9 acc.length cp9) := HO4.out.r.cell (i := 1) (by omega)
                have n5 : ((acc.length : Int) == 300) = true := by rw [h300]; rfl
                clear hrr HO4 hcs
                have t0 := rX4.out.c0
                have t1 := rX4.out.c1
                have tz0 := rX4.out.frozen 0
                have tz1 := rX4.out.frozen 1
                have q0 := rX4.out.zero.c0
                have q1 := rX4.out.zero.c1
                have hZ := zeroB bX4.out
                go_wp2
                clear t0 t1 tz0 tz1
                generalize (w4.setCell ⟨w.heap.size, 0, none⟩ (.int .i64 0)).setCell ⟨w.heap.size, 1, none⟩ (.slice none 0 0) = Z at *
                refine bodyPost_ret (v := .tuple #[.agg #[.int .i64 0, .slice none 0 0], .bool false]) (by simp [results, Tryz.results28, go_sem, q0, q1]) rfl ?_
                exact rdPost_none _ _ _ rfl hZ
              · have hr2 : Hid (r = (Tx.rdGo k R'.data.toList (acc ++ [⟨f, t, mo⟩])).map fun L => (n, L)) := Lib.hid (by rw [hrr.out, if_pos ⟨rfl, h300⟩])
                have o1 : w4.cell? ⟨ob, 1, none⟩ = some (.slice p9 acc.length cp9) := HO4.out.r.cell (i := 1) (by omega)
                have n5 : ((acc.length : Int) == 300) = false := by rw [beq_eq_false_iff_ne]; omega
                have g0 : w4.cell? ⟨g, 0, none⟩ = some (.int .i64 f) := hcs.out 0 (by simp)
                have g1 : w4.cell? ⟨g, 1, none⟩ = some (.int .i64 t) := hcs.out 1 (by simp)
                have g2 : w4.cell? ⟨g, 2, none⟩ = some (.int .i64 mo) := hcs.out 2 (by simp)
                have hgl := block_lt_of_cell g0
                have hgl2 := hg.out
                have hal := ha.out
                have h3z := hz.out.2.1
                have h3y := hz.out.2.2 rfl
                have hkk := hk.out
                clear hrr hcs
                go_upto_region 11 with fail
                have S0 : w4.drew.cell? ⟨ob, 1, none⟩ = some (.slice p9 acc.length cp9) ∧ w4.drew.cell? ⟨g, 0, none⟩ = some (.int .i64 f) ∧ w4.drew.cell? ⟨g, 1, none⟩ = some (.int .i64 t) ∧ w4.drew.cell? ⟨g, 2, none⟩ = some (.int .i64 mo) := ⟨o1, g0, g1, g2⟩
                clear o1 g0 g1 g2
                refine region_head_held 14 (fun w' => w'.cell? ⟨ob, 1, none⟩ = some (.slice p9 acc.length cp9) ∧ w'.cell? ⟨g, 0, none⟩ = some (.int .i64 f) ∧ w'.cell? ⟨g, 1, none⟩ = some (.int .i64 t) ∧ w'.cell? ⟨g, 2, none⟩ = some (.int .i64 mo)) (by kernel_rfl) (by kernel_rfl) S0 (fun hHeld => ?_)
                simp only [List.take_succ_cons, List.take_zero, List.drop_succ_cons, List.drop_zero]
                refine wpAnyH_take (i := 0) (v := ?_) rfl (by kernel_rfl) (by kernel_rfl) (by kernel_rfl) (fun _ _ _ h => h) (Or.inl ⟨by rfl, ?_⟩) (by assumption) ?_
                rotate_left 1
                · (intro w hSw; (try dsimp only at hSw); go_simp; all_goals with_reducible rfl)
                try simp only [Act.put, List.setIfInBounds_toArray, List.set_cons_zero, List.set_cons_succ]
                refine wpAnyH_take (i := 1) (v := ?_) rfl (by kernel_rfl) (by kernel_rfl) (by kernel_rfl) (fun _ _ _ h => h) (Or.inl ⟨by rfl, ?_⟩) (by assumption) ?_
                rotate_left 1
                · (intro w hSw; (try dsimp only at hSw); go_simp; all_goals with_reducible rfl)
                try simp only [Act.put, List.setIfInBounds_toArray, List.set_cons_zero, List.set_cons_succ]
                refine wpAnyH_take (i := 2) (v := ?_) rfl (by kernel_rfl) (by kernel_rfl) (by kernel_rfl) (fun _ _ _ h => h) (Or.inl ⟨by rfl, ?_⟩) (by assumption) ?_
                rotate_left 1
                · (intro w hSw; (try dsimp only at hSw); go_simp; all_goals with_reducible rfl)
                try simp only [Act.put, List.setIfInBounds_toArray, List.set_cons_zero, List.set_cons_succ]
                refine wpAnyH_take (i := 3) (v := ?_) rfl (by kernel_rfl) (by kernel_rfl) (by kernel_rfl) (fun _ _ _ h => h) (Or.inl ⟨by rfl, ?_⟩) (by assumption) ?_
                rotate_left 1
                · (intro w hSw; (try dsimp only at hSw); go_simp; all_goals with_reducible rfl)
                try simp only [Act.put, List.setIfInBounds_toArray, List.set_cons_zero, List.set_cons_succ]
                refine wpAnyH_take (i := 4) (v := ?_) rfl (by kernel_rfl) (by kernel_rfl) (by kernel_rfl) (fun _ _ _ h => h) (Or.inl ⟨by rfl, ?_⟩) (by assumption) ?_
                rotate_left 1
                · (intro w hSw; (try dsimp only at hSw); go_simp; all_goals with_reducible rfl)
                try simp only [Act.put, List.setIfInBounds_toArray, List.set_cons_zero, List.set_cons_succ]
                refine wpAnyH_take (i := 5) (v := ?_) rfl (by kernel_rfl) (by kernel_rfl) (by kernel_rfl) (fun _ _ _ h => h) (Or.inl ⟨by rfl, ?_⟩) (by assumption) ?_
                rotate_left 1
                · (intro w hSw; (try dsimp only at hSw); go_simp; all_goals with_reducible rfl)
                try simp only [Act.put, List.setIfInBounds_toArray, List.set_cons_zero, List.set_cons_succ]
                refine wpAnyH_take (i := 6) (v := ?_) rfl (by kernel_rfl) (by kernel_rfl) (by kernel_rfl) (fun _ _ _ h => h) (Or.inl ⟨by rfl, ?_⟩) (by assumption) ?_
                rotate_left 1
                · (intro w hSw; (try dsimp only at hSw); go_simp; all_goals with_reducible rfl)
                try simp only [Act.put, List.setIfInBounds_toArray, List.set_cons_zero, List.set_cons_succ]
                refine wpAnyH_take (i := 7) (v := ?_) rfl (by kernel_rfl) (by kernel_rfl) (by kernel_rfl) (fun _ _ _ h => h) (Or.inl ⟨by rfl, ?_⟩) (by assumption) ?_
                rotate_left 1
                · (intro w hSw; (try dsimp only at hSw); go_simp; all_goals with_reducible rfl)
                try simp only [Act.put, List.setIfInBounds_toArray, List.set_cons_zero, List.set_cons_succ]
                refine wpAnyH_take (i := 8) (v := ?_) rfl (by kernel_rfl) (by kernel_rfl) (by kernel_rfl) (fun _ _ _ h => h) (Or.inl ⟨by rfl, ?_⟩) (by assumption) ?_
                rotate_left 1
                · (intro w hSw; (try dsimp only at hSw); go_simp; all_goals with_reducible rfl)
                try simp only [Act.put, List.setIfInBounds_toArray, List.set_cons_zero, List.set_cons_succ]
                refine wpAnyH_take (i := 9) (v := ?_) rfl (by kernel_rfl) (by kernel_rfl) (by kernel_rfl) (fun _ _ _ h => h) (Or.inl ⟨by rfl, ?_⟩) (by assumption) ?_
                rotate_left 1
                · (intro w hSw; (try dsimp only at hSw); go_simp; all_goals with_reducible rfl)
                try simp only [Act.put, List.setIfInBounds_toArray, List.set_cons_zero, List.set_cons_succ]
                refine wpAnyH_take (i := 10) (v := ?_) rfl (by kernel_rfl) (by kernel_rfl) (by kernel_rfl) (fun _ _ _ h => h) (Or.inl ⟨by rfl, ?_⟩) (by assumption) ?_
                rotate_left 1
                · (intro w hSw; (try dsimp only at hSw); go_simp; all_goals with_reducible rfl)
                try simp only [Act.put, List.setIfInBounds_toArray, List.set_cons_zero, List.set_cons_succ]
                refine wpAnyH_take (i := 11) (v := ?_) rfl (by kernel_rfl) (by kernel_rfl) (by kernel_rfl) (fun _ _ _ h => h) (Or.inl ⟨by rfl, ?_⟩) (by assumption) ?_
                rotate_left 1
                · (intro w hSw; (try dsimp only at hSw); go_simp; all_goals with_reducible rfl)
                try simp only [Act.put, List.setIfInBounds_toArray, List.set_cons_zero, List.set_cons_succ]
                refine wpAnyH_ready (rs := [12]) (by kernel_rfl) (by simp) ?_
                refine AllReadyH.cons rfl (fun K hK => ?_) ?_
                rotate_left 1
                · exact AllReadyH.nil
                go_simp
                obtain ⟨s1, s2, s3, s4⟩ := hHeld
                have T0 : (w4.alloc (Obj.cells #[.int .i64 f, .int .i64 t, .int .i64 mo] 54)).drew.cell? ⟨ob, 1, none⟩ = some (.slice p9 acc.length cp9) ∧ (w4.alloc (Obj.cells #[.int .i64 f, .int .i64 t, .int .i64 mo] 54)).drew.cell? ⟨g, 0, none⟩ = some (.int .i64 f) ∧ (w4.alloc (Obj.cells #[.int .i64 f, .int .i64 t, .int .i64 mo] 54)).drew.cell? ⟨g, 1, none⟩ = some (.int .i64 t) ∧ (w4.alloc (Obj.cells #[.int .i64 f, .int .i64 t, .int .i64 mo] 54)).drew.cell? ⟨g, 2, none⟩ = some (.int .i64 mo) := ⟨cell_alloc s1 _, cell_alloc s2 _, cell_alloc s3 _, cell_alloc s4 _⟩
                refine hK.out _ _ T0 (fun hHeld2 => ?_)
                clear hK K
                try simp only [Act.put, List.setIfInBounds_toArray, List.set_cons_zero, List.set_cons_succ]
                refine wpAnyH_ready (rs := [13]) (by kernel_rfl) (by simp) ?_
                refine AllReadyH.cons rfl (fun K hK => ?_) ?_
                rotate_left 1
                · exact AllReadyH.nil
                have hbW : Below w4.heap.size w4 (w4.alloc (Obj.cells #[.int .i64 f, .int .i64 t, .int .i64 mo] 54)).drew := ((Below.refl w4.heap.size w4).alloc (Nat.le_refl _) _).drew
                have hY2 := HO4.out.b.size
                refine step_append_lks (by rfl) _ _ (by rfl) Y.heap.size _ acc.length acc (by rfl) ((HO4.out.o.alloc _).drew) (some ⟨w4.heap.size, 0, none⟩) 1 1 [⟨f, t, mo⟩] rfl (by rfl) ((lks_one w4 f t mo).below (Below.refl _ _).drew) (fun h => by cases h) (by omega) (Nat.le_trans hY2 hbW.size) ?_
                intro p1 cp1 wp1 hown1 hgrow1
                obtain ⟨u1, u2, u3, u4⟩ := hHeld2
                have hfar : ∀ x, (Value.slice p9 acc.length cp9).ownBlock = some x → Y.heap.size ≤ x := fun x hx => owns_far HO4.out.o hx
                have hgn : ∀ x, (Value.slice p9 acc.length cp9).ownBlock = some x → ¬ g = x := fun x hx e => by have := hownlt.out x hx; omega
                have hgc : ∀ (i : Nat) (y : Value), (w4.alloc (Obj.cells #[.int .i64 f, .int .i64 t, .int .i64 mo] 54)).drew.cell? ⟨g, i, none⟩ = some y → wp1.cell? ⟨g, i, none⟩ = some y := fun i y hy =>
                  (World.cell?_of_block (hgrow1.block g (block_lt_of_cell hy) (fun e => hgn _ e.symm rfl))).trans hy
                refine hK.out _ _ ⟨cell_far hgrow1 hfar (by show ob < _; omega) u1, hgc _ _ u2, hgc _ _ u3, hgc _ _ u4⟩ (fun hHeld3 => ?_)
                clear hK K
                try simp only [Act.put, List.setIfInBounds_toArray, List.set_cons_zero, List.set_cons_succ]
                refine wpAnyH_done (by kernel_rfl) ?_ _
                show wpList _ _ _ _ _ _
                obtain ⟨HP, r2⟩ := HO4.out.push hbW hgrow1 hown1
                have t1 := r2.cell (i := 1) (by omega)
                have tz1 := r2.frozen 1
                simp only [Nat.one_ne_zero, if_false] at t1
                replace HP := Lib.hid HP
                clear hown1 hgrow1 hfar hHeld3 u1 u2 u3 u4 s1 s2 s3 s4 T0 S0 HO4 r2 hbW hgn hgc
                go_wp2
                go_roundw
                case rel => exact ⟨R', _, _, k, rfl, h3z, Lib.hid (by have : R'.data.toList.length = R'.size := by simp
                                                                      omega), Lib.hid (by rw [List.length_append]; show acc.length + 1 ≤ 300; omega), HP, hr2⟩
                case measure => exact h3y
end Go.Proofs.YtemacokojdeimaaGreatDoor
