/- The law ChainTexts: Print and Parse return what the specification returns. -/
import Derived.Test.YtemacokojdeimaaGreatDoorZRp
import Derived.Test.YtemacokojdeimaaGreatDoorZPz
import Derived.Test.YtemacokojdeimaaGreatDoorZ07
import Derived.Test.YtemacokojdeimaaGreatDoorZYm
import Derived.Test.YtemacokojdeimaaGreatDoorZHs
set_option linter.unusedSimpArgs false
set_option linter.unusedVariables false
namespace Go.Proofs.YtemacokojdeimaaGreatDoor
open Go.RowKit

theorem ps_un {w : World} {r : Option (Int × List Ch.Lk)} {e : Ending} {w' : World} (h : PsPost w r e w') : ∃ a cap, e = .returned (.tuple #[.agg #[.int .i64 (r.getD (0, [])).1, .slice a (r.getD (0, [])).2.length cap], .int .i64 (if r.isSome then 0 else 7)]) ∧ Hid (LksAt w' a (r.getD (0, [])).2) ∧ Below w.heap.size w w' := by
  cases r with
  | none => exact ⟨none, 0, h.2, Lib.hid (fun k hk => by cases hk), h.1⟩
  | some x =>
    obtain ⟨hb, v, he, ho⟩ := h
    obtain ⟨a, cap, rfl, hL⟩ := lks_of_owns ho.out
    exact ⟨a, cap, he, Lib.hid hL, hb⟩
theorem rd_un {w : World} {r : Option (Int × List Ch.Lk)} {e : Ending} {w' : World} (h : RdPost w r e w') : ∃ a cap, e = .returned (.tuple #[.agg #[.int .i64 (r.getD (0, [])).1, .slice a (r.getD (0, [])).2.length cap], .bool r.isSome]) ∧ Hid (LksAt w' a (r.getD (0, [])).2) ∧ Below w.heap.size w w' := by
  cases r with
  | none => exact ⟨none, 0, h.2, Lib.hid (fun k hk => by cases hk), h.1⟩
  | some x =>
    obtain ⟨hb, v, he, ho⟩ := h
    obtain ⟨a, cap, rfl, hL⟩ := lks_of_owns ho.out
    exact ⟨a, cap, he, Lib.hid hL, hb⟩

/-- the world in the law: the system in its box -/
structure TJ (w : World) (n : Int) (a : Option Addr) (m cap : Nat) (L : List Ch.Lk) (W : World) : Prop where
  c0 : W.cell? ⟨w.heap.size, 0, none⟩ = some (.int .i64 n)
  c1 : W.cell? ⟨w.heap.size, 1, none⟩ = some (.slice a m cap)
  l : LksAt W a L
  b : Below w.heap.size w W
theorem TJ.below {w W W' : World} {n : Int} {a : Option Addr} {m cap : Nat} {L : List Ch.Lk} (h : TJ w n a m cap L W) (hb : Below W.heap.size W W') : TJ w n a m cap L W' := ⟨kept1 h.c0 hb, kept1 h.c1 hb, h.l.below hb, h.b.trans (hb.mono h.b.size)⟩
/-- a further system in a box -/
structure BJ (sb : Nat) (n : Int) (a : Option Addr) (cap : Nat) (L : List Ch.Lk) (W : World) : Prop where
  c0 : W.cell? ⟨sb, 0, none⟩ = some (.int .i64 n)
  c1 : W.cell? ⟨sb, 1, none⟩ = some (.slice a L.length cap)
  l : LksAt W a L
theorem BJ.below {sb : Nat} {W W' : World} {n : Int} {a : Option Addr} {cap : Nat} {L : List Ch.Lk} (h : BJ sb n a cap L W) (hb : Below W.heap.size W W') : BJ sb n a cap L W' := ⟨kept1 h.c0 hb, kept1 h.c1 hb, h.l.below hb⟩
theorem BJ.mk' {W : World} {n : Int} {a : Option Addr} {cap : Nat} {L : List Ch.Lk} (h : LksAt W a L) : BJ W.heap.size n a cap L (W.alloc (Obj.cells #[.int .i64 n, .slice a L.length cap] 24)) :=
  ⟨by simp [go_sem], by simp [go_sem], h.below ((Below.refl _ _).alloc (Nat.le_refl _) _)⟩

theorem texts_other (n : Int) (a : Option Addr) (m cap : Nat) (T : ByteArray) (h : (decide (m ≤ 310) && decide (n ≤ 70)) = false ∨ 3000 < T.size) (w : World) :
    Calls Tryz.prog 3 #[sysV n a m cap, .string T] w (LawPost w) := by
  obtain ⟨b, hb⟩ : ∃ b, (decide (m ≤ 310) && decide (n ≤ 70)) = b := ⟨_, rfl⟩
  have HS := Lib.hid fun (W : World) => small_any n a m cap b (Lib.hid hb) W
  unfold sysV at *
  rw [hb] at h
  clear hb
  cases b
  · clear h
    go_enter Tryz.func3, Tryz.ntmps3
    go_wp2_with fail
    refine (HS.out _).mono ?_
    rintro e w1 ⟨rfl, hb1⟩
    have hbw : Below w.heap.size w w1 := (by repeat (first | with_reducible exact Below.refl _ _ | with_reducible assumption | refine below_drewN ?_ _ | refine Below.drew ?_ | refine Below.alloc ?_ (by first | (simp; done) | (simp; omega) | omega) _ | refine Below.setCell ?_ (by first | (simp; done) | (simp; omega) | omega) _ | refine Below.trans ?_ (Below.mono (by assumption) (by first | (simp; done) | (simp; omega) | omega))))
    go_wp2_with fail
    refine (sanity_any w1).mono ?_
    rintro e w2 ⟨rfl, hb2⟩
    go_wp2
    go_ret
    exact ⟨rfl, hbw.trans (hb2.mono hbw.size)⟩
  · have hT : (3000 : Int) < (T.size : Int) := by rcases h with h | h; cases h; omega
    clear h
    go_enter Tryz.func3, Tryz.ntmps3
    go_wp2_with fail
    refine (HS.out _).mono ?_
    rintro e w1 ⟨rfl, hb1⟩
    have hbw : Below w.heap.size w w1 := (by repeat (first | with_reducible exact Below.refl _ _ | with_reducible assumption | refine below_drewN ?_ _ | refine Below.drew ?_ | refine Below.alloc ?_ (by first | (simp; done) | (simp; omega) | omega) _ | refine Below.setCell ?_ (by first | (simp; done) | (simp; omega) | omega) _ | refine Below.trans ?_ (Below.mono (by assumption) (by first | (simp; done) | (simp; omega) | omega))))
    go_wp2_with fail
    refine (sanity_any w1).mono ?_
    rintro e w2 ⟨rfl, hb2⟩
    go_wp2
    go_ret
    exact ⟨rfl, hbw.trans (hb2.mono hbw.size)⟩

set_option maxRecDepth 100000 in
set_option maxHeartbeats 4000000 in
theorem texts_main (n : Int) (a : Option Addr) (m cap : Nat) (T : ByteArray) (h : (decide (m ≤ 310) && decide (n ≤ 70)) = true) (hT3 : T.size ≤ 3000) (w : World) (V : Vars w) (hTab : Hid (Tab w.heap.size w)) (L : List Ch.Lk) (hm : L.length = m) (hL : LksAt w a L) :
    Calls Tryz.prog 3 #[sysV n a m cap, .string T] w (LawPost w) := by
  subst hm
  have HS := Lib.hid fun (W : World) => small_any n a L.length cap true (Lib.hid h) W
  clear h
  have V1 : Hid (∀ W : World, Below w.heap.size w W → Nonempty (Vars W)) := Lib.hid fun W hb => ⟨V.on hb⟩
  have hTN : ¬ (3000 : Int) < (T.size : Int) := by omega
  have HPr := Lib.hid fun (W : World) (h : LksAt W a L) (t : Tab W.heap.size W) => print_any n a cap L W (Lib.hid h) (Lib.hid t)
  have HE := Lib.hid fun (W : World) (h : LksAt W a L) => rerror_any n a cap L W h
  have hrg := Tx.check_rng (n := n) (L := L)
  have HRP : (Ch.check n L).1 = 0 → Hid (∀ W : World, LksAt W a L → Calls Tryz.prog 11 #[.agg #[.int .i64 n, .slice a L.length cap]] W fun e w' => e = .returned (.string ⟨(if (Ch.check n L).1 = 0 then Tx.prt n L else []).toArray⟩) ∧ Below W.heap.size W w') := fun h0 => Lib.hid fun W hW => by
    obtain ⟨r1, r2, r3⟩ := hrg h0
    rw [if_pos h0]
    exact rprint_any n a L.length cap L (Lib.hid rfl) r2 (Lib.hid ⟨by unfold Tx.R64'; omega, fun l hl => by have := r3 l hl; unfold Tx.R64'; omega⟩) (by omega) (Lib.hid (fun l hl => by have := r3 l hl; omega)) W (Lib.hid hW)
  have hPe : (Ch.check n L).1 ≠ 0 → (⟨(if (Ch.check n L).1 = 0 then Tx.prt n L else []).toArray⟩ : ByteArray) = ⟨#[]⟩ := fun h => by rw [if_neg h]
  obtain ⟨P, hP⟩ : ∃ P : ByteArray, (⟨(if (Ch.check n L).1 = 0 then Tx.prt n L else []).toArray⟩ : ByteArray) = P := ⟨_, rfl⟩
  rw [hP] at HPr hPe HRP
  obtain ⟨er, her⟩ : ∃ er, (Ch.check n L).1 = er := ⟨_, rfl⟩
  rw [her] at HPr HE hPe HRP
  clear hP her hrg V
  unfold sysV at *
  go_enter Tryz.func3, Tryz.ntmps3
  have hJ0 : TJ w n a L.length cap L (w.alloc (Obj.cells #[.int .i64 n, .slice a L.length cap] 24)) := ⟨by simp [go_sem], by simp [go_sem], hL.below (below_alloc (Below.refl _ _) _), below_alloc (Below.refl _ _) _⟩
  replace hJ0 := Lib.hid hJ0
  go_upto_region 1 with fail
  generalize w.alloc (Obj.cells #[.int .i64 n, .slice a L.length cap] 24) = X at *
  have c0 := hJ0.out.c0
  have c1 := hJ0.out.c1
  go_wp2_with fail
  refine (HS.out _).mono ?_
  rintro e w1 ⟨rfl, hb1⟩
  have hJ1 := Lib.hid (hJ0.out.below hb1)
  clear c0 c1 hJ0 hb1 HS
  have c0 := hJ1.out.c0
  have c1 := hJ1.out.c1
  go_wp2_with fail
  refine (HPr.out _ hJ1.out.l (Tab.mono (hTab.out.on hJ1.out.b) hJ1.out.b.size)).mono ?_
  rintro e w2 ⟨rfl, hb2⟩
  have hJ2 := Lib.hid (hJ1.out.below hb2)
  clear c0 c1 hJ1 hb2 HPr
  obtain ⟨V2⟩ := V1.out _ hJ2.out.b
  go_wp2_with fail
  refine (parse_any T (by omega) w2 V2 (Lib.hid (Tab.mono (hTab.out.on hJ2.out.b) hJ2.out.b.size))).mono ?_
  intro e w3 h3
  obtain ⟨a3, cap3, rfl, hl3, hb3⟩ := ps_un h3
  have hJ3 := Lib.hid (hJ2.out.below hb3)
  clear h3 hb3 hJ2 V2
  have hRR := rparse_any T (by omega)
  rw [← Tx.prs_rprs] at hRR
  replace hRR := Lib.hid hRR
  have hL1m : ((Tx.prs T.data.toList).getD (0, [])).2.length ≤ 300 := by
    cases hq : Tx.prs T.data.toList with
    | none => exact Nat.zero_le _
    | some x => exact (Tx.check_rng (Tx.prs_some (n := x.1) (L := x.2) hq).1).2.1
  generalize Tx.prs T.data.toList = r at *
  obtain ⟨fv, hfv⟩ : ∃ fv : Int, (if r.isSome then (0 : Int) else 7) = fv := ⟨_, rfl⟩
  obtain ⟨ib, hib⟩ : ∃ ib, r.isSome = ib := ⟨_, rfl⟩
  have hfi : Hid ((ib = true ∧ fv = 0) ∨ (ib = false ∧ fv = 7)) := Lib.hid (by rw [hib] at hfv; cases ib <;> simp_all)
  rw [hfv]
  obtain ⟨n1, hn1⟩ : ∃ n1, (r.getD (0, [])).1 = n1 := ⟨_, rfl⟩
  obtain ⟨L1, hL1⟩ : ∃ L1, (r.getD (0, [])).2 = L1 := ⟨_, rfl⟩
  rw [hL1] at hl3 hL1m ⊢
  rw [hn1]
  go_upto_region 5 with fail
  have hB3 := Lib.hid (BJ.mk' (W := w3) (n := n1) (a := a3) (cap := cap3) hl3.out)
  have hJ4 := Lib.hid (hJ3.out.below ((Below.refl _ _).alloc (Nat.le_refl _) (Obj.cells #[.int .i64 n1, .slice a3 L1.length cap3] 24)))
  clear hJ3 hl3
  generalize w3.alloc (Obj.cells #[.int .i64 n1, .slice a3 L1.length cap3] 24) = X4 at *
  generalize w3.heap.size = s3 at *
  have c0 := hJ4.out.c0
  have c1 := hJ4.out.c1
  go_wp2_with fail
  refine (HE.out _ hJ4.out.l).mono ?_
  rintro e w5 ⟨rfl, hb5⟩
  have hJ5 := Lib.hid (hJ4.out.below hb5)
  have hB5 := Lib.hid (hB3.out.below hb5)
  clear c0 c1 hJ4 hB3 hb5 HE
  go_wp2_with fail
  refine (hRR.out w5).mono ?_
  intro e w6 h6
  obtain ⟨a6, cap6, rfl, hl6, hb6⟩ := rd_un h6
  rw [hL1] at hl6 ⊢
  rw [hn1, hib]
  have hJ6 := Lib.hid (hJ5.out.below hb6)
  have hB6 := Lib.hid (hB5.out.below hb6)
  clear h6 hb6 hJ5 hB5 hRR hn1 hL1 hfv hib
  go_upto_region 7 with fail
  have hC6 := Lib.hid (BJ.mk' (W := w6) (n := n1) (a := a6) (cap := cap6) hl6.out)
  have hbA : Below w6.heap.size w6 (w6.alloc (Obj.cells #[.int .i64 n1, .slice a6 L1.length cap6] 24)) := (Below.refl _ _).alloc (Nat.le_refl _) _
  have hJ7 := Lib.hid (hJ6.out.below hbA)
  have hB7 := Lib.hid (hB6.out.below hbA)
  clear hJ6 hB6 hbA hl6
  generalize w6.alloc (Obj.cells #[.int .i64 n1, .slice a6 L1.length cap6] 24) = X7 at *
  generalize w6.heap.size = s6 at *
  have c0 := hJ7.out.c0
  have c1 := hJ7.out.c1
  by_cases h0 : er = 0
  · subst h0
    have HR := HRP rfl
    clear HRP hPe
    go_wp2_with fail
    refine (HR.out _ hJ7.out.l).mono ?_
    rintro e w8 ⟨rfl, hb8⟩
    have hJ8 := Lib.hid (hJ7.out.below hb8)
    have hB8 := Lib.hid (hB7.out.below hb8)
    have hC8 := Lib.hid (hC6.out.below hb8)
    clear c0 c1 hJ7 hB7 hC6 hb8 HR
    go_wp2_with fail
    refine (sanity_any w8).mono ?_
    rintro e w9 ⟨rfl, hb9⟩
    have hJ9 := Lib.hid (hJ8.out.below hb9)
    have hB9 := Lib.hid (hB8.out.below hb9)
    have hC9 := Lib.hid (hC8.out.below hb9)
    clear hb9 hJ8 hB8 hC8
    have d0 := hB9.out.c0
    have d1 := hB9.out.c1
    have f0 := hC9.out.c0
    have f1 := hC9.out.c1
    have HSS := Lib.hid (same_any n1 n1 a3 a6 L1.length L1.length cap3 cap6 L1 L1 (Lib.hid rfl) (Lib.hid rfl) (by omega) true (Lib.hid (by simp)) w9 (Lib.hid hB9.out.l) (Lib.hid hC9.out.l))
    unfold sysV at HSS
    have bJ := hJ9.out.b
    clear hB9 hC9 hJ9
    go_wp2_with fail
    refine HSS.out.mono ?_
    rintro e w10 ⟨rfl, hb10⟩
    have bK := bJ.trans (hb10.mono bJ.size)
    clear d0 d1 f0 f1 HSS bJ hb10
    rcases hfi.out with ⟨rfl, rfl⟩ | ⟨rfl, rfl⟩
    · go_wp2
      go_ret
      exact ⟨rfl, bK⟩
    · go_wp2
      go_ret
      exact ⟨rfl, bK⟩
  · have n0 : (er != 0) = true := by simpa using h0
    have n2 : (er == 0) = false := by simpa using h0
    have hPe0 := hPe h0
    subst hPe0
    clear c0 c1 HRP
    go_wp2_with fail
    refine (sanity_any X7).mono ?_
    rintro e w9 ⟨rfl, hb9⟩
    have hJ9 := Lib.hid (hJ7.out.below hb9)
    have hB9 := Lib.hid (hB7.out.below hb9)
    have hC9 := Lib.hid (hC6.out.below hb9)
    clear hb9 hJ7 hB7 hC6
    have d0 := hB9.out.c0
    have d1 := hB9.out.c1
    have f0 := hC9.out.c0
    have f1 := hC9.out.c1
    have HSS := Lib.hid (same_any n1 n1 a3 a6 L1.length L1.length cap3 cap6 L1 L1 (Lib.hid rfl) (Lib.hid rfl) (by omega) true (Lib.hid (by simp)) w9 (Lib.hid hB9.out.l) (Lib.hid hC9.out.l))
    unfold sysV at HSS
    have bJ := hJ9.out.b
    clear hB9 hC9 hJ9
    go_wp2_with fail
    refine HSS.out.mono ?_
    rintro e w10 ⟨rfl, hb10⟩
    have bK := bJ.trans (hb10.mono bJ.size)
    clear d0 d1 f0 f1 HSS bJ hb10
    rcases hfi.out with ⟨rfl, rfl⟩ | ⟨rfl, rfl⟩
    · go_wp2
      go_ret
      exact ⟨rfl, bK⟩
    · go_wp2
      go_ret
      exact ⟨rfl, bK⟩

theorem chainTexts_true (w : World) (n : Int) (a : Option Addr) (m cap : Nat) (_ : -9223372036854775808 ≤ n ∧ n ≤ 9223372036854775807) (_ : a = none → cap = 0) (_ : m ≤ maxLen) (L : List Ch.Lk) (hm : L.length = m) (hL : LksAt w a L) (T : ByteArray) (V : Vars w) (hTab : Lib.TabBelow Tryz.prog w.heap.size w "internal/strconv.uint64pow10" .u64 Lib.pow10Tab) :
    Calls Tryz.prog 3 #[sysV n a m cap, .string T] w (LawPost w) := by
  by_cases h1 : (decide (m ≤ 310) && decide (n ≤ 70)) = true
  · by_cases h2 : T.size ≤ 3000
    · exact texts_main n a m cap T h1 h2 w V (Lib.hid hTab) L hm hL
    · exact texts_other n a m cap T (Or.inr (by omega)) w
  · exact texts_other n a m cap T (Or.inl (by simpa using h1)) w
end Go.Proofs.YtemacokojdeimaaGreatDoor
