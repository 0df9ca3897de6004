/- Contracts of package chain: Tight. -/
import Derived.Test.YtkcchangkhklcaaZ06
set_option linter.unusedSimpArgs false
set_option linter.unusedVariables false
namespace Go.Proofs.Ytkcchangkhklcaa
open Go.RowKit

/-- what Tight leaves: a table of its own, or an error -/
def TiPost (w : World) (n : Nat) (ec : Int) (B : Nat → Nat → Int) (e : Ending) (w' : World) : Prop :=
  Below w.heap.size w w' ∧ ((ec ≠ 0 ∧ e = .returned (.tuple #[.slice none 0 0, .int .i64 ec])) ∨
    (ec = 0 ∧ ∃ ob S0, w.heap.size ≤ ob ∧ ob < S0 ∧ e = .returned (.tuple #[.slice (some ⟨ob, 0, none⟩) n n, .int .i64 0]) ∧ w'.rowIs ob 32 n (fun u => .slice (some ⟨S0 + u, 0, none⟩) n n) ∧ ∀ u, u < n → w'.rowIs (S0 + u) 3 n (fun j => .int .i64 (B u j))))

/-- the rows that are made -/
structure T1 (w1 W : World) (p0 : Addr) (S0 ob N k : Nat) : Prop where
  o : W.rowIs ob 32 N (fun u => if u < k then .slice (some ⟨S0 + u, 0, none⟩) N N else .slice none 0 0)
  r : ∀ u, u < k → W.rowIs (S0 + u) 3 N (fun _ => .int .i64 0)
  c : W.cell? p0 = some (.int .i64 N)
  b : Below w1.heap.size w1 W
  h : W.heap.size = S0 + k
  l0 : w1.heap.size ≤ ob
  lo : ob < S0
  p : p0.block < ob
theorem T1.step {w1 W : World} {p0 : Addr} {S0 ob N k : Nat} (h : T1 w1 W p0 S0 ob N k) :
    T1 w1 ((W.alloc (Obj.cells (madeCells #[.int .i64 0] N) 3)).setCell ⟨ob, k, none⟩ (.slice (some ⟨W.heap.size, 0, none⟩) N N)) p0 S0 ob N (k + 1) := by
  have hb := h.b.size
  have hs := h.h
  have hlo := h.lo
  refine ⟨?_, fun u hu => ?_, ?_, (h.b.alloc hb _).setCell (p := ⟨ob, k, none⟩) h.l0 _, by simp; omega, h.l0, h.lo, h.p⟩
  · refine ((h.o.alloc _).set k _).congr (fun i hi => ?_)
    by_cases e : i = k
    · subst e; rw [if_pos rfl, if_pos (by omega), hs]
    · rw [if_neg e]
      by_cases e2 : i < k
      · rw [if_pos e2, if_pos (by omega)]
      · rw [if_neg e2, if_neg (by omega)]
  · by_cases e : u = k
    · subst e
      have h1 := World.rowIs_made W (.int .i64 0) N 3
      rw [hs] at h1
      exact h1.setOther (a := ⟨ob, u, none⟩) (by show S0 + u ≠ ob; omega) _
    · exact ((h.r u (by omega)).alloc _).setOther (a := ⟨ob, k, none⟩) (by show S0 + u ≠ ob; omega) _
  · exact cell_set_ne (cell_alloc h.c _) (by have := h.p; simp; omega)

/-- the rows that are filled: all columns before v, and the column v down to k -/
structure TW (w1 W : World) (S0 ob N : Nat) (B : Nat → Nat → Int) (v k : Nat) : Prop where
  o : W.rowIs ob 32 N (fun u => .slice (some ⟨S0 + u, 0, none⟩) N N)
  r : ∀ u, u < N → W.rowIs (S0 + u) 3 N (fun j => .int .i64 (if j < v ∨ (j = v ∧ u < k) then B u j else 0))
  b : Below w1.heap.size w1 W
  h : S0 + N ≤ W.heap.size
  l0 : w1.heap.size ≤ ob
  lo : ob < S0
theorem TW.below {w1 W W' : World} {S0 ob N v k : Nat} {B : Nat → Nat → Int} (h : TW w1 W S0 ob N B v k) (hb : Below W.heap.size W W') : TW w1 W' S0 ob N B v k :=
  ⟨Below.row hb h.o, fun u hu => Below.row hb (h.r u hu), h.b.trans (hb.mono h.b.size), Nat.le_trans h.h hb.size, h.l0, h.lo⟩
theorem TW.next {w1 W : World} {S0 ob N v : Nat} {B : Nat → Nat → Int} (h : TW w1 W S0 ob N B v N) : TW w1 W S0 ob N B (v + 1) 0 :=
  ⟨h.o, fun u hu => (h.r u hu).congr (fun j hj => by
    by_cases e : j < v ∨ (j = v ∧ u < N)
    · rw [if_pos e, if_pos (by omega)]
    · rw [if_neg e, if_neg (by omega)]), h.b, h.h, h.l0, h.lo⟩
theorem TW.step {w1 W : World} {S0 ob N v k : Nat} {B : Nat → Nat → Int} (h : TW w1 W S0 ob N B v k) : TW w1 (W.setCell ⟨S0 + k, v, none⟩ (.int .i64 (B k v))) S0 ob N B v (k + 1) := by
  have hl := h.l0
  have hlo := h.lo
  refine ⟨h.o.setOther (a := ⟨S0 + k, v, none⟩) (by show ob ≠ S0 + k; omega) _, fun u hu => ?_, h.b.setCell (p := ⟨S0 + k, v, none⟩) (by show w1.heap.size ≤ S0 + k; omega) _, by simpa using h.h, h.l0, h.lo⟩
  by_cases e : u = k
  · subst e
    refine ((h.r u hu).set v _).congr (fun j hj => ?_)
    by_cases e2 : j = v
    · subst e2; rw [if_pos rfl, if_pos (by omega)]
    · rw [if_neg e2]
      by_cases e3 : j < v
      · rw [if_pos (.inl e3), if_pos (.inl e3)]
      · rw [if_neg (by omega), if_neg (by omega)]
  · refine ((h.r u hu).setOther (a := ⟨S0 + k, v, none⟩) (by show S0 + u ≠ S0 + k; omega) _).congr (fun j hj => ?_)
    by_cases e3 : j < v ∨ (j = v ∧ u < k)
    · rw [if_pos e3, if_pos (by omega)]
    · rw [if_neg e3, if_neg (by omega)]
theorem TW.of1 {w1 W : World} {p0 : Addr} {S0 ob N : Nat} (h : T1 w1 W p0 S0 ob N N) (B : Nat → Nat → Int) : TW w1 W S0 ob N B 0 0 :=
  ⟨h.o.congr (fun u hu => by rw [if_pos hu]), fun u hu => (h.r u hu).congr (fun j hj => by rw [if_neg (by omega)]), h.b, by rw [h.h]; exact Nat.le_refl _, h.l0, h.lo⟩

/-- the table of all bounds -/
def tightB (n : Int) (L : List Ch.Lk) (k : Nat) : Nat → Nat → Int := fun u v => (Ch.bt n.toNat L [] k v).getD u 0

set_option maxRecDepth 100000 in
set_option maxHeartbeats 4000000 in
theorem tight_any (n : Int) (a : Option Addr) (cap : Nat) (L : List Ch.Lk) (k : Nat) (hE : (Ch.check n L).1 = 0 → Ch.enough n.toNat L [] k = true) (w : World) (hL : LksAt w a L) :
    Calls Try.prog 24 #[sysV n a L.length cap] w (TiPost w n.toNat (Ch.opn n L [] k) (tightB n L k)) := by
  have hB0 : Below w.heap.size w (w.alloc (Obj.cells #[.int .i64 n, .slice a L.length cap] 24)) := below_alloc (Below.refl _ _) _
  have HO := open_any n a cap L none 0 [] (by simp) k hE _ (hL.below hB0) (fun k hk => absurd hk (by simp))
  obtain ⟨ec, hec⟩ : ∃ ec, Ch.opn n L [] k = ec := ⟨_, rfl⟩
  have hok := Ch.opn_ok (n := n) (L := L) (l := []) (k := k)
  rw [hec] at HO hok ⊢
  obtain ⟨Bt, hBt⟩ : ∃ Bt : Nat → Nat → Int, tightB n L k = Bt := ⟨_, rfl⟩
  have hBt2 : Hid (∀ u v, Bt u v = (Ch.bt n.toNat L [] k v).getD u 0) := Lib.hid fun u v => by rw [← hBt]; rfl
  rw [hBt]
  clear hBt
  replace HO := Lib.hid HO
  replace hok := Lib.hid hok
  unfold sysV at *
  clear hec
  go_enter Try.func24, Try.ntmps24
  go_wp2_with fail
  refine HO.out.mono ?_
  rintro e w1 ⟨hb, h⟩
  have hB := hB0.trans (hb.mono (by simp))
  have k0 : w1.cell? ⟨w.heap.size, 0, none⟩ = some (.int .i64 n) := kept1 (by simp [go_sem]) hb
  clear hb hB0 HO
  rcases h with ⟨hne, rfl⟩ | ⟨rfl, gb, ib, db, V, hge, rfl, hG, hAp, hdb0⟩
  · go_wp2
    go_ret2
    exact ⟨hB, .inl ⟨hne, rfl⟩⟩
  · obtain ⟨hc0, _, hcon⟩ := hok.out rfl
    have hE2 := hE hc0
    obtain ⟨n1, n2, _⟩ := Ch.check_ok hc0
    obtain ⟨N, rfl⟩ : ∃ N : Nat, n = (N : Int) := ⟨n.toNat, by omega⟩
    simp only [Int.toNat_natCast] at *
    have hbt := Lib.hid fun (v : Nat) (hv : v < N) => (Ch.enough_bt hE2 hcon (v := v) hv).1
    replace hG := Lib.hid hG
    clear hE2 hcon hc0 hok hE hAp hdb0 hL
    have hmk1 := run_make_row' (P := Try.prog) 35 32 (.slice none 0 0) 24 Try.underlying35 infoSl rfl .i64 .i64 N (by omega) (by omega)
    have hmk2 := run_make_row' (P := Try.prog) 32 3 (.int .i64 0) 8 Try.underlying32 infoInt rfl .i64 .i64 N (by omega) (by omega)
    have hT : Hid (T1 w1 (w1.alloc (Obj.cells (madeCells #[.slice none 0 0] N) 32)) ⟨w.heap.size, 0, none⟩ (w1.heap.size + 1) w1.heap.size N 0) := Lib.hid ⟨(World.rowIs_made w1 (.slice none 0 0) N 32).congr (fun u hu => by rw [if_neg (by omega)]), fun u hu => by omega, cell_alloc k0 _, (Below.refl _ _).alloc (Nat.le_refl _) _, by simp, Nat.le_refl _, by omega, by have := block_lt_of_cell k0; exact this⟩
    go_upto_region 5 with fail
    generalize w1.alloc (Obj.cells (madeCells #[.slice none 0 0] N) 32) = Y at *
    generalize hob : w1.heap.size = ob at *
    generalize ob + 1 = S0 at *
    replace hob := Lib.hid hob
    clear k0
    go_wp2
    go_loopw [24] (fun i wr => ∃ k : Nat, k ≤ N ∧ i = .int .i64 k ∧ Hid (T1 w1 wr ⟨w.heap.size, 0, none⟩ S0 ob N k)) (fun i _ => N - (RowKit.intOf i).toNat)
    case atStart => exact ⟨0, Nat.zero_le _, rfl, hT⟩
    case round =>
      clear hT
      obtain ⟨j, hj, rfl, HT⟩ := hrel
      by_cases hlt : j < N
      · have hi5 : (j : Int) < (N : Int) := by omega
        have k0 := cell_alloc HT.out.c (Obj.cells (madeCells #[.int .i64 0] N) 3)
        have c0 := HT.out.c
        have d0 := (HT.out.o.alloc (Obj.cells (madeCells #[.int .i64 0] N) 3)).cell (i := j) hlt
        have z0 := (HT.out.o.alloc (Obj.cells (madeCells #[.int .i64 0] N) 3)).frozen j
        have HT2 := Lib.hid HT.out.step
        clear HT
        go_wp2
        go_roundw
        case rel => exact ⟨j + 1, by omega, by go_num, HT2⟩
        case measure => show N - ((j : Int) + 1).toNat < N - (j : Int).toNat; omega
      · obtain rfl : j = N := by omega
        have hi5 : ¬ (j : Int) < (j : Int) := by omega
        have HW := Lib.hid (TW.of1 HT.out Bt)
        clear HT hmk1 hmk2
        go_wp2
        go_loopw [36] (fun i wr => ∃ v : Nat, v ≤ j ∧ i = .int .i64 v ∧ Hid (TW w1 wr S0 ob j Bt v 0)) (fun i _ => j - (RowKit.intOf i).toNat)
        case atStart => exact ⟨0, Nat.zero_le _, rfl, HW⟩
        case round =>
          clear HW
          obtain ⟨v, hv, rfl, HW⟩ := hrel
          by_cases hlt : v < j
          · have hi6 : (v : Int) < (j : Int) := by omega
            have hi7 : (0 : Int) ≤ (v : Int) := by omega
            have HB := Lib.hid (boundsTo_any j gb (by omega) (by omega) v hlt L [] k _ (Lib.hid (hbt.out v hlt)) _ ib db _ a cap V wr (Lib.hid (hG.out.below (by rw [← hob.out]; exact HW.out.b))))
            have hBv : Hid (∀ u, Bt u v = (Ch.bt j L [] k v).getD u 0) := Lib.hid fun u => hBt2.out u v
            obtain ⟨S, hS⟩ : ∃ S, Ch.bt j L [] k v = S := ⟨_, rfl⟩
            rw [hS] at HB hBv
            clear hS
            go_wp2_with fail
            refine HB.out.mono ?_
            rintro e w2 ⟨sb, hsb, hb, rfl, hr⟩
            obtain ⟨f, r1, r2⟩ := hr S rfl
            have HW2 := Lib.hid (HW.out.below hb)
            have hss : S0 + j ≤ sb := Nat.le_trans HW.out.h hsb
            have hrow := Lib.hid r1
            have hval := Lib.hid r2
            clear hb hr r1 r2 HB HW hsb
            go_wp2
            go_loopw [43] (fun i wr => ∃ q : Nat, q ≤ j ∧ i = .int .i64 q ∧ Hid (TW w1 wr S0 ob j Bt v q) ∧ Hid (wr.rowIs sb 3 j f)) (fun i _ => j - (RowKit.intOf i).toNat)
            case atStart => exact ⟨0, Nat.zero_le _, rfl, HW2, hrow⟩
            case round =>
              clear HW2 hrow
              obtain ⟨q, hq, rfl, HW, hrow⟩ := hrel
              by_cases hlt2 : q < j
              · have hi8 : (q : Int) < (j : Int) := by omega
                have hi9 : (0 : Int) ≤ (q : Int) := by omega
                have c1 := hrow.out.cell (i := q) hlt2
                rw [hval.out q hlt2, ← hBv.out q] at c1
                have d0 := HW.out.o.cell (i := q) hlt2
                have d1 := (HW.out.r q hlt2).cell (i := v) hlt
                have z1 := (HW.out.r q hlt2).frozen v
                have HW2 := Lib.hid HW.out.step
                have hrow2 := Lib.hid (hrow.out.setOther (a := ⟨S0 + q, v, none⟩) (by show sb ≠ S0 + q; omega) (.int .i64 (Bt q v)))
                obtain ⟨x, hx⟩ : ∃ x, Bt q v = x := ⟨_, rfl⟩
                rw [hx] at c1 HW2 hrow2
                clear HW hrow hx
                go_wp2
                go_roundw
                case rel => exact ⟨q + 1, by omega, by go_num, HW2, hrow2⟩
                case measure => show j - ((q : Int) + 1).toNat < j - (q : Int).toNat; omega
              · obtain rfl : q = j := by omega
                have hi8 : ¬ (q : Int) < (q : Int) := by omega
                have HW2 := Lib.hid HW.out.next
                clear HW hrow hval
                go_wp2
                go_roundw
                case rel => exact ⟨v + 1, by omega, by go_num, HW2⟩
                case measure => show q - ((v : Int) + 1).toNat < q - (v : Int).toNat; omega
          · obtain rfl : v = j := by omega
            have hi6 : ¬ (v : Int) < (v : Int) := by omega
            have hw1 := hB.size
            rw [hob.out] at hw1
            have hBl := hB.trans (HW.out.b.mono hB.size)
            go_wp2
            go_ret2
            exact ⟨hBl, .inr ⟨rfl, ob, S0, hw1, HW.out.lo, rfl, HW.out.o, fun u hu => (HW.out.r u hu).congr (fun i hi => by rw [if_pos (.inl hi)])⟩⟩
end Go.Proofs.Ytkcchangkhklcaa
