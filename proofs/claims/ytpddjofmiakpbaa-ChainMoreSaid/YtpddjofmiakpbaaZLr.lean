/- The law ChainMore, walked. -/
import Derived.Test.YtpddjofmiakpbaaZLra
import Derived.Test.YtpddjofmiakpbaaZLrb
import Derived.Test.YtpddjofmiakpbaaZLrc
set_option linter.unusedSimpArgs false
set_option linter.unusedVariables false
namespace Go.Proofs.Ytpddjofmiakpbaa
open Go.RowKit

set_option maxRecDepth 100000 in
set_option maxHeartbeats 8000000 in
theorem more_err (n : Int) (a : Option Addr) (m cap : Nat) (f t z u v : Int) (L : List Ch.Lk) (hm : Hid (L.length = m)) (hm9 : m ≤ 310) (hsm : Hid ((decide (m ≤ 310) && decide (n ≤ 70)) = true)) (ha : Hid (a = none → cap = 0)) (k : Nat) (hE : Ch.EN n L k) (hno : ¬ (Ch.opn n L [] k = 0 ∧ Ch.withE n L [⟨f, t, z⟩] = 0)) (w : World) (hL : Hid (LksAt w a L)) :
    Calls Try.prog 9 #[sysV n a m cap, .agg #[.int .i64 f, .int .i64 t, .int .i64 z], .int .i64 u, .int .i64 v] w (LawPost w) := by
  have HSm := Lib.hid fun (W : World) => small_any n a m cap true hsm W
  have HSa := Lib.hid fun (W : World) => sanity_any W
  have HTi := Lib.hid fun (W : World) (h : MO w n a m cap L f t z W) => tight_any n a cap L k hE.en W h.s.l
  have HWi := Lib.hid fun (W : World) (x : Option Addr) (cx : Nat) (hx : x = none → cx = 0) (h : MO w n a m cap L f t z W) (h2 : LksAt W x [⟨f, t, z⟩]) => with_any n a x m 1 cap cx L [⟨f, t, z⟩] hm (Lib.hid rfl) ha (Lib.hid hx) (by omega) W (Lib.hid h.s.l) (Lib.hid h2)
  rw [hm.out] at HTi
  obtain ⟨e1, he1⟩ : ∃ e1, Ch.opn n L [] k = e1 := ⟨_, rfl⟩
  obtain ⟨e2, he2⟩ : ∃ e2, Ch.withE n L [⟨f, t, z⟩] = e2 := ⟨_, rfl⟩
  rw [he1, he2] at hno
  rw [he1] at HTi
  rw [he2] at HWi
  unfold sysV at *
  replace hno := Lib.hid hno
  clear hE he1 he2
  go_enter Try.func9, Try.ntmps9
  go_wp2_with fail
  refine (HSm.out _).mono ?_
  rintro e w1 ⟨rfl, hb⟩
  have hB0 : Below w.heap.size w ((w.alloc (Obj.cells #[.int .i64 n, .slice a m cap] 24)).alloc (Obj.cells #[.int .i64 f, .int .i64 t, .int .i64 z] 63)) := below_alloc (below_alloc (Below.refl _ _) _) _
  have hB1 := hB0.trans (hb.mono hB0.size)
  have hJ := Lib.hid (MO.mk (w := w) (n := n) (a := a) (m := m) (cap := cap) (L := L) (f := f) (t := t) (z := z) (W := w1) (SB.mk (w := w) (n := n) (a := a) (m := m) (cap := cap) (W := w1) (kept1 (cell_alloc (by simp [go_sem]) _) hb) (kept1 (cell_alloc (by simp [go_sem]) _) hb) (hL.out.below hB1) hB1) (kept1 (by simp [go_sem]) hb) (kept1 (by simp [go_sem]) hb) (kept1 (by simp [go_sem]) hb))
  clear hb hB0 hB1 HSm hsm hL
  have k0 := hJ.out.s.c0
  have k1 := hJ.out.s.c1
  have l0 := hJ.out.l0
  have l1 := hJ.out.l1
  have l2 := hJ.out.l2
  go_wp2_with fail
  refine (HTi.out _ hJ.out).mono ?_
  rintro e w2 ⟨hb, h⟩
  have hJ2 := Lib.hid (hJ.out.below hb)
  clear hb hJ k0 k1 l0 l1 l2 HTi
  rcases h with ⟨hne, rfl⟩ | ⟨rfl, ob, S0, _, _, rfl, _, _⟩
  · have g1 : (e1 != 0) = true := by rw [bne_iff_ne]; exact hne
    clear hno hne
    have k0 := hJ2.out.s.c0
    have k1 := hJ2.out.s.c1
    have l0 := hJ2.out.l0
    have l1 := hJ2.out.l1
    have l2 := hJ2.out.l2
    have hl2 := Lib.hid (lks_one w2 f t z)
    have hb := (Below.refl w2.heap.size w2).alloc (Nat.le_refl _) (Obj.cells #[.int .i64 f, .int .i64 t, .int .i64 z] 63)
    have hJq := Lib.hid (hJ2.out.below hb)
    clear hb
    go_wp2_with fail
    refine (HWi.out _ _ _ (fun h => by cases h) hJq.out hl2.out).mono ?_
    rintro e w3 ⟨kk, vv, rfl, hx1, hx2, hb⟩
    obtain ⟨p9, l9, c9, rfl⟩ : ∃ (p : Option Addr) (l c : Nat), vv = .slice p l c := by
      by_cases h : e2 = 0
      · have h2 := (hx2 h).2
        rw [← List.length_append] at h2
        obtain ⟨p, c, hv, _⟩ := lks_of_owns h2
        exact ⟨p, _, c, hv⟩
      · exact ⟨none, 0, 0, (hx1 h).2⟩
    have hJ3a := Lib.hid (hJq.out.below hb)
    clear hb hJ2 hJq k0 k1 l0 l1 l2 hl2 HWi
    have hb := (Below.refl w3.heap.size w3).alloc (Nat.le_refl _) (Obj.cells #[.int .i64 kk, .slice p9 l9 c9] 24)
    have hJ3 := Lib.hid (hJ3a.out.below hb)
    clear hb hJ3a
    go_wp2_with fail
    refine (HSa.out _).mono ?_
    rintro e w99 ⟨rfl, hb⟩
    have hB := hJ3.out.s.b.trans (hb.mono hJ3.out.s.b.size)
    clear hb hJ3
    go_wp2
    go_ret
    exact ⟨rfl, hB⟩
  · have hne : e2 ≠ 0 := fun h => hno.out ⟨rfl, h⟩
    have g1 : (e2 != 0) = true := by rw [bne_iff_ne]; exact hne
    clear hno hne
    have k0 := hJ2.out.s.c0
    have k1 := hJ2.out.s.c1
    have l0 := hJ2.out.l0
    have l1 := hJ2.out.l1
    have l2 := hJ2.out.l2
    have hl2 := Lib.hid (lks_one w2 f t z)
    have hb := (Below.refl w2.heap.size w2).alloc (Nat.le_refl _) (Obj.cells #[.int .i64 f, .int .i64 t, .int .i64 z] 63)
    have hJq := Lib.hid (hJ2.out.below hb)
    clear hb
    go_wp2_with fail
    refine (HWi.out _ _ _ (fun h => by cases h) hJq.out hl2.out).mono ?_
    rintro e w3 ⟨kk, vv, rfl, hx1, hx2, hb⟩
    obtain ⟨p9, l9, c9, rfl⟩ : ∃ (p : Option Addr) (l c : Nat), vv = .slice p l c := by
      by_cases h : e2 = 0
      · have h2 := (hx2 h).2
        rw [← List.length_append] at h2
        obtain ⟨p, c, hv, _⟩ := lks_of_owns h2
        exact ⟨p, _, c, hv⟩
      · exact ⟨none, 0, 0, (hx1 h).2⟩
    have hJ3a := Lib.hid (hJq.out.below hb)
    clear hb hJ2 hJq k0 k1 l0 l1 l2 hl2 HWi
    have hb := (Below.refl w3.heap.size w3).alloc (Nat.le_refl _) (Obj.cells #[.int .i64 kk, .slice p9 l9 c9] 24)
    have hJ3 := Lib.hid (hJ3a.out.below hb)
    clear hb hJ3a
    go_wp2_with fail
    refine (HSa.out _).mono ?_
    rintro e w99 ⟨rfl, hb⟩
    have hB := hJ3.out.s.b.trans (hb.mono hJ3.out.s.b.size)
    clear hb hJ3
    go_wp2
    go_ret
    exact ⟨rfl, hB⟩
set_option maxRecDepth 100000 in
set_option maxHeartbeats 8000000 in
theorem more_other (n : Int) (a : Option Addr) (m cap : Nat) (f t z u v : Int) (hsm : Hid ((decide (m ≤ 310) && decide (n ≤ 70)) = false)) (w : World) :
    Calls Try.prog 9 #[sysV n a m cap, .agg #[.int .i64 f, .int .i64 t, .int .i64 z], .int .i64 u, .int .i64 v] w (LawPost w) := by
  have HSa := Lib.hid fun (W : World) => sanity_any W
  have HSm := Lib.hid fun (W : World) => small_any n a m cap false hsm W
  clear hsm
  unfold sysV at *
  go_enter Try.func9, Try.ntmps9
  go_wp2_with fail
  refine (HSm.out _).mono ?_
  rintro e w1 ⟨rfl, hb⟩
  have hB0 : Below w.heap.size w ((w.alloc (Obj.cells #[.int .i64 n, .slice a m cap] 24)).alloc (Obj.cells #[.int .i64 f, .int .i64 t, .int .i64 z] 63)) := below_alloc (below_alloc (Below.refl _ _) _) _
  have hB1 := hB0.trans (hb.mono hB0.size)
  clear hb hB0 HSm
  go_wp2_with fail
  refine (HSa.out _).mono ?_
  rintro e w4 ⟨rfl, hb⟩
  have hB := hB1.trans (hb.mono hB1.size)
  clear hb hB1
  go_wp2
  go_ret
  exact ⟨rfl, hB⟩
/-- the law -/
theorem chainMore_true (w : World) (n : Int) (a : Option Addr) (m cap : Nat) (_ : I64 n) (ha : a = none → cap = 0) (_ : m ≤ maxLen) (L : List Ch.Lk) (hm : L.length = m) (hL : LksAt w a L) (_ : ∀ i, i < m → I64l (L.getD i Ch.noLk)) (f t z : Int) (u : Int) (_ : I64 u) (v : Int) (_ : I64 v) :
    Calls Try.prog 9 #[sysV n a m cap, .agg #[.int .i64 f, .int .i64 t, .int .i64 z], .int .i64 u, .int .i64 v] w (LawPost w) := by
  obtain ⟨K, hK⟩ := Ch.en_ex n L
  have hE := hK K (Nat.le_refl _)
  cases h : (decide (m ≤ 310) && decide (n ≤ 70))
  · exact more_other n a m cap f t z u v (Lib.hid h) w
  · have h9 : m ≤ 310 := by
      rw [Bool.and_eq_true, decide_eq_true_eq] at h
      exact h.1
    by_cases hb : Ch.opn n L [] K = 0 ∧ Ch.withE n L [⟨f, t, z⟩] = 0
    · obtain ⟨g1, g2⟩ := hb
      obtain ⟨K2, hK2⟩ := Ch.en_ex n (L ++ [⟨f, t, z⟩])
      have hE2 := hK2 K2 (Nat.le_refl _)
      cases hc : Ch.cons n.toNat (L ++ [⟨f, t, z⟩]) [] K2
      · exact more_a n a m cap f t z u v L (Lib.hid hm) h9 (Lib.hid h) (Lib.hid ha) K K2 hE hE2 g1 g2 hc w (Lib.hid hL)
      · by_cases hf : Ch.tb n L K t.toNat f.toNat = 1152921504606846976
        · exact more_b n a m cap f t z u v L (Lib.hid hm) h9 (Lib.hid h) (Lib.hid ha) K K2 hE hE2 g1 g2 hc hf w (Lib.hid hL)
        · exact more_c n a m cap f t z u v L (Lib.hid hm) h9 (Lib.hid h) (Lib.hid ha) K K2 hE hE2 g1 g2 hc hf w (Lib.hid hL)
    · exact more_err n a m cap f t z u v L (Lib.hid hm) h9 (Lib.hid h) (Lib.hid ha) K hE hb w (Lib.hid hL)
end Go.Proofs.Ytpddjofmiakpbaa
