/- Contracts of package chain: Reach. -/
import Derived.Test.YtkcchangkhklcaaZ06
import Derived.Test.YtkcchangkhklcaaZUd
set_option linter.unusedSimpArgs false
set_option linter.unusedVariables false
namespace Go.Proofs.Ytkcchangkhklcaa
open Go.RowKit

/-- a row of which the first k are written -/
def flF (g : Nat → Int) (f : Nat → Value) (k : Nat) : Nat → Value := fun i => if i < k then .int .i64 (g i) else f i
theorem flF_zero (g : Nat → Int) (f : Nat → Value) : flF g f 0 = f := by funext i; unfold flF; rw [if_neg (by omega)]
theorem fl_step {W : World} {b N k : Nat} {g : Nat → Int} {f : Nat → Value} (h : W.rowIs b 3 N (flF g f k)) : (W.setCell ⟨b, k, none⟩ (.int .i64 (g k))).rowIs b 3 N (flF g f (k + 1)) := by
  refine (h.set k _).congr (fun i _ => ?_)
  unfold flF
  by_cases e : i = k
  · subst e; rw [if_pos rfl, if_pos (by omega)]
  · rw [if_neg e]
    by_cases e2 : i < k
    · rw [if_pos e2, if_pos (by omega)]
    · rw [if_neg e2, if_neg (by omega)]

/-- a row that is read beside one that is written, and a cell -/
structure RW (w W : World) (p0 : Addr) (v0 : Value) (rb lb n : Nat) (s : Nat → Int) (g : Nat → Int) (f : Nat → Value) (k : Nat) : Prop where
  b : ∃ q, W.rowIs rb 3 n q ∧ ∀ i, i < n → q i = .int .i64 (s i)
  l : W.rowIs lb 3 n (flF g f k)
  c : W.cell? p0 = some v0
  bw : Below w.heap.size w W
  l0 : w.heap.size ≤ lb
  ne : rb ≠ lb
  pn : p0.block ≠ lb
theorem RW.step {w W : World} {p0 : Addr} {v0 : Value} {rb lb n k : Nat} {s g : Nat → Int} {f : Nat → Value} (h : RW w W p0 v0 rb lb n s g f k) : RW w (W.setCell ⟨lb, k, none⟩ (.int .i64 (g k))) p0 v0 rb lb n s g f (k + 1) := by
  obtain ⟨q, q1, q2⟩ := h.b
  exact ⟨⟨q, q1.setOther (a := ⟨lb, k, none⟩) h.ne _, q2⟩, fl_step h.l, cell_set_ne h.c (by simpa using fun e => h.pn e), h.bw.setCell h.l0 _, h.l0, h.ne, h.pn⟩
theorem RW.drew {w W : World} {p0 : Addr} {v0 : Value} {rb lb n k : Nat} {s g : Nat → Int} {f : Nat → Value} (h : RW w W p0 v0 rb lb n s g f k) : RW w W.drew p0 v0 rb lb n s g f k := by
  obtain ⟨q, q1, q2⟩ := h.b
  exact ⟨⟨q, q1.drew, q2⟩, h.l.drew, h.c, h.bw.drew, h.l0, h.ne, h.pn⟩

set_option maxRecDepth 100000 in
set_option maxHeartbeats 4000000 in
theorem reach_any (n : Int) (a : Option Addr) (cap : Nat) (L : List Ch.Lk) (u v : Int) (k : Nat) (hE : (Ch.check n L).1 = 0 → Ch.enough n.toNat L [] k = true) (hσ : (Ch.check n L).1 = 0 → Ch.cons n.toNat L [] k = true → ∃ σ, Ch.Sol L [] σ) (w : World) (hL : LksAt w a L) :
    Calls Try.prog 20 #[sysV n a L.length cap, .int .i64 u, .int .i64 v] w (LsPost w n.toNat (Ch.reach n L k u v).2 (Ch.reach n L k u v).1) := by
  have hB0 : Below w.heap.size w ((w.alloc (Obj.cells #[.int .i64 n, .slice a L.length cap] 24)).alloc (Obj.cells #[.int .i64 u, .int .i64 v] 3)) := below_alloc (below_alloc (Below.refl _ _) _) _
  have hI := intsAt_two (w.alloc (Obj.cells #[.int .i64 n, .slice a L.length cap] 24)) 3 u v
  have HO := open_any n a cap L (some ⟨w.heap.size + 1, 0, none⟩) 2 [u, v] (by simp) k hE _ (hL.below hB0) (by simpa using hI)
  obtain ⟨ec, hec⟩ : ∃ ec, Ch.opn n L [u, v] k = ec := ⟨_, rfl⟩
  have hok := Ch.opn_ok (n := n) (L := L) (l := [u, v]) (k := k)
  rw [hec] at HO hok
  obtain ⟨r1, r2, hrr⟩ : ∃ r1 r2, Ch.reach n L k u v = (r1, r2) := ⟨_, _, rfl⟩
  rw [hrr]
  unfold Ch.reach at hrr
  rw [hec] at hrr
  replace hrr := Lib.hid hrr
  have HO := Lib.hid HO
  replace hok := Lib.hid hok
  unfold sysV at *
  clear hI hec
  go_enter Try.func20, Try.ntmps20
  go_wp2_with fail
  refine HO.out.mono ?_
  rintro e w1 ⟨hb, h⟩
  have hB := hB0.trans (hb.mono (by simp; omega))
  have k0 : w1.cell? ⟨w.heap.size, 0, none⟩ = some (.int .i64 n) := kept1 (cell_alloc (by simp [go_sem]) _) hb
  clear hb hB0 HO
  rcases h with ⟨hne, rfl⟩ | ⟨rfl, gb, ib, db, V, hge, rfl, hG, hAp, hdb0⟩
  · have h := hrr.out
    rw [if_pos hne] at h
    obtain ⟨rfl, rfl⟩ := Prod.mk.inj h
    clear hrr h
    go_wp2
    go_ret2
    exact ⟨hB, .inl ⟨hne, rfl⟩⟩
  · have hrr := hrr.out
    rw [if_neg (by simp)] at hrr
    obtain ⟨hc0, hall, hcon⟩ := hok.out rfl
    have hE2 := hE hc0
    have hS0 := hσ hc0 hcon
    obtain ⟨n1, n2, _, hokk⟩ := Ch.check_ok hc0
    obtain ⟨N, rfl⟩ : ∃ N : Nat, n = (N : Int) := ⟨n.toNat, by omega⟩
    simp [Ch.isIx] at hall
    obtain ⟨⟨u1, u2⟩, v1, v2⟩ := hall
    obtain ⟨p, rfl⟩ : ∃ p : Nat, u = (p : Int) := ⟨u.toNat, by omega⟩
    obtain ⟨q, rfl⟩ : ∃ q : Nat, v = (q : Int) := ⟨v.toNat, by omega⟩
    simp only [Int.toNat_natCast] at *
    obtain ⟨hbt, _, _⟩ := Ch.enough_bt hE2 hcon (v := q) (by omega)
    have hBT := Ch.bt_spec (by omega) (by omega) hokk (by omega) hbt hS0
    obtain ⟨hlev, hLV⟩ := Ch.lv_spec (by omega) (by omega) hokk hcon
    have HB := Lib.hid (boundsTo_any N gb (by omega) (by omega) q (by omega) L [] k _ (Lib.hid hbt) _ ib db _ a cap V w1 (Lib.hid hG))
    have HLv := Lib.hid fun (W : World) (hW : Below w1.heap.size w1 W) => levels_any N gb (by omega) (by omega) L [] k _ (Lib.hid hlev) _ ib db _ a cap V W (Lib.hid (hG.below hW))
    obtain ⟨S, hS⟩ : ∃ S, Ch.bt N L [] k q = S := ⟨_, rfl⟩
    obtain ⟨lv, hlv⟩ : ∃ lv, Ch.lvs N L k = lv := ⟨_, rfl⟩
    rw [hS] at HB hrr hBT
    rw [hlv] at HLv hrr hLV
    clear hS hG hE2 hcon hc0 hok hE hbt hlev hlv hσ hS0 hokk
    obtain ⟨z, hz⟩ : ∃ z, S.getD p 0 = z := ⟨_, rfl⟩
    have hzlo := hBT.lo p (by omega)
    have hzhi := hBT.hi p (by omega)
    rw [hz] at hrr hzlo hzhi
    replace hrr := Lib.hid hrr
    have hzz := Lib.hid hz
    have hBT2 := Lib.hid hBT
    have hLV2 := Lib.hid hLV
    clear hBT hLV
    have p2 : (p : Int) < (N : Int) := by omega
    have q2 : (q : Int) < (N : Int) := by omega
    clear hz
    go_wp2_with fail
    refine HB.out.mono ?_
    rintro e w2 ⟨sb, hsb, hb, rfl, hr⟩
    obtain ⟨f, hr1, hr2⟩ := hr S rfl
    have hc := hr1.cell (i := p) (by omega)
    rw [hr2 p (by omega), hzz.out] at hc
    have hB2 := hB.trans (hb.mono hB.size)
    have k0 := kept1 k0 hb
    have HL := Lib.hid (HLv.out w2 hb)
    have hrow := Lib.hid hr1
    have hrv := Lib.hid hr2
    have hsw := hr1.lt
    clear hb hr hr1 hr2 HB HLv hB
    by_cases h9 : z = 1152921504606846976
    · subst h9
      have h := hrr.out
      unfold Ch.free at h
      rw [if_pos rfl] at h
      obtain ⟨rfl, rfl⟩ := Prod.mk.inj h
      clear hrr h HL hrow hrv
      go_wp2
      go_ret2
      exact ⟨hB2, .inl ⟨by decide, rfl⟩⟩
    · have h := hrr.out
      unfold Ch.free at h
      rw [if_neg h9] at h
      obtain ⟨rfl, rfl⟩ := Prod.mk.inj h
      clear hrr h
      have hzh := hzhi.resolve_left h9
      have h9' : (z == 1152921504606846976) = false := by rw [beq_eq_false_iff_ne]; exact h9
      clear hzhi
      go_wp2_with fail
      refine HL.out.mono ?_
      rintro e w3 ⟨lb, hlb, hb, rfl, hr⟩
      obtain ⟨g, g1, g2⟩ := hr lv rfl
      have k0' := k0
      have k0 := kept1 k0 hb
      have hB3 := hB2.trans (hb.mono hB2.size)
      have hr2 := hrow.out.of_block (hb.block _ hrow.out.lt)
      have hne : sb ≠ lb := by omega
      have cs : w3.cell? ⟨sb, p, none⟩ = some (.int .i64 z) := by
        have h := hr2.cell (i := p) (by omega)
        rw [hrv.out p (by omega), hzz.out] at h
        exact h
      have cu := g1.cell (i := p) (by omega)
      rw [g2 p (by omega)] at cu
      have cv := g1.cell (i := q) (by omega)
      rw [g2 q (by omega)] at cv
      have bu := hLV2.out.b p (by omega)
      have bv := hLV2.out.b q (by omega)
      obtain ⟨yu, hyu⟩ : ∃ y, lv.getD p 0 = y := ⟨_, rfl⟩
      obtain ⟨yv, hyv⟩ : ∃ y, lv.getD q 0 = y := ⟨_, rfl⟩
      rw [hyu] at cu bu
      rw [hyv] at cv bv
      have hR0 : Hid (Ch.rz S lv p q = max (-yv) (z - yu)) := Lib.hid (by unfold Ch.rz; rw [hyu, hyv, hzz.out])
      obtain ⟨bu1, bu2⟩ := bu
      obtain ⟨bv1, bv2⟩ := bv
      have hl0 : w.heap.size ≤ lb := Nat.le_trans hB2.size hlb
      have hw0 : w.heap.size < lb := by have := block_lt_of_cell k0'; simp at this; omega
      have HR0 : Hid (∀ r, Ch.rz S lv p q = r → RW w w3 ⟨w.heap.size, 0, none⟩ (.int .i64 N) sb lb N (fun i => S.getD i 0) (Ch.low S lv r) (fun i => .int .i64 (lv.getD i 0)) 0) := Lib.hid fun r _ => ⟨⟨f, hr2, hrv.out⟩, by rw [flF_zero]; exact g1.congr (fun i hi => g2 i hi), k0, hB3, hl0, hne, by show w.heap.size ≠ lb; omega⟩
      clear hb hr g1 g2 hr2 hrow hrv HL hyu hyv hB2 hB3
      go_upto_region 8 with fail
      go_region
      have hrm1 : 0 ≤ max (-yv) (z - yu) := by omega
      have hrm2 : max (-yv) (z - yu) ≤ 531424756029718528 := by omega
      have hRr := Lib.hid (HR0.out _ hR0.out)
      clear HR0
      generalize max (-yv) (z - yu) = r at *
      replace hRr : Hid (RW w w3.drew ⟨w.heap.size, 0, none⟩ (.int .i64 N) sb lb N (fun i => S.getD i 0) (Ch.low S lv r) (fun i => .int .i64 (lv.getD i 0)) 0) := Lib.hid hRr.out.drew
      clear cs cu cv k0' k0 hlb
      generalize w3.drew = Y at *
      have hlow : Hid (∀ i, i < N → -265712378014859264 ≤ Ch.low S lv r i ∧ Ch.low S lv r i ≤ 531424756029718528) := Lib.hid fun i hi => by
        have h1 := hBT2.out.lo i hi
        have h2 := hLV2.out.b i hi
        unfold Ch.low
        omega
      go_wp2
      go_loopw [60] (fun i wr => ∃ j : Nat, j ≤ N ∧ i = .int .i64 j ∧ Hid (RW w wr ⟨w.heap.size, 0, none⟩ (.int .i64 N) sb lb N (fun i => S.getD i 0) (Ch.low S lv r) (fun i => .int .i64 (lv.getD i 0)) j)) (fun i _ => N - (RowKit.intOf i).toNat)
      case atStart => exact ⟨0, Nat.zero_le _, rfl, hRr⟩
      case round =>
        clear hRr
        obtain ⟨j, hj, rfl, HS⟩ := hrel
        by_cases hlt : j < N
        · have hi5 : (j : Int) < (N : Int) := by omega
          obtain ⟨f, f1, f2⟩ := HS.out.b
          have c1 := f1.cell (i := j) hlt
          rw [f2 j hlt] at c1
          have c2 := HS.out.l.cell (i := j) hlt
          have z2 := HS.out.l.frozen j
          have e2 : flF (Ch.low S lv r) (fun i => .int .i64 (lv.getD i 0)) j j = .int .i64 (lv.getD j 0) := by unfold flF; rw [if_neg (by omega)]
          rw [e2] at c2
          have HS2 := HS.out.step
          have hlb1 := hLV2.out.b j hlt
          have hll : Ch.low S lv r j = min (S.getD j 0) (lv.getD j 0 + r) := rfl
          rw [hll] at HS2
          obtain ⟨x, hx⟩ : ∃ x, S.getD j 0 = x := ⟨_, rfl⟩
          obtain ⟨y, hy⟩ : ∃ y, lv.getD j 0 = y := ⟨_, rfl⟩
          rw [hx] at c1 HS2
          rw [hy] at c2 HS2 hlb1
          obtain ⟨hl1, hl2⟩ := hlb1
          replace HS2 := Lib.hid HS2
          clear f1 f2 hx hy hll e2
          go_wp2
          go_roundw
          case rel => exact ⟨j + 1, by omega, by go_num, HS2⟩
          case measure => show N - ((j : Int) + 1).toNat < N - (j : Int).toNat; omega
        · obtain rfl : j = N := by omega
          have hi5 : ¬ (j : Int) < (j : Int) := by omega
          have hmk := run_make_row' (P := Try.prog) 32 3 (.int .i64 0) 8 Try.underlying32 infoInt rfl .i64 .i64 j (by omega) (by omega)
          have k0 := HS.out.c
          have hrl : ∃ q, wr.rowIs lb 3 j q ∧ ∀ i, i < j → q i = .int .i64 (Ch.low S lv r i) := ⟨_, HS.out.l, fun i hi => by unfold flF; rw [if_pos hi]⟩
          have hlw : lb < wr.heap.size := by obtain ⟨_, h, _⟩ := hrl; exact h.lt
          have HX : Hid (RW w (wr.alloc (Obj.cells (madeCells #[.int .i64 0] j) 3)) ⟨w.heap.size, 0, none⟩ (.int .i64 j) lb wr.heap.size j (Ch.low S lv r) (fun i => Ch.low S lv r 0 - Ch.low S lv r i) (fun _ => .int .i64 0) 0) := Lib.hid (by
            obtain ⟨q, q1, q2⟩ := hrl
            have := HS.out.bw.size
            have hb := block_lt_of_cell k0
            exact ⟨⟨q, q1.alloc _, q2⟩, by rw [flF_zero]; exact World.rowIs_made wr _ _ _, cell_alloc k0 _, HS.out.bw.alloc HS.out.bw.size _, HS.out.bw.size, by omega, by omega⟩)
          clear HS hrl
          go_wp2
          generalize wr.alloc (Obj.cells (madeCells #[.int .i64 0] j) 3) = Y2 at *
          generalize wr.heap.size = xb at *
          go_loopw [82] (fun i wr => ∃ k : Nat, k ≤ j ∧ i = .int .i64 k ∧ Hid (RW w wr ⟨w.heap.size, 0, none⟩ (.int .i64 j) lb xb j (Ch.low S lv r) (fun i => Ch.low S lv r 0 - Ch.low S lv r i) (fun _ => .int .i64 0) k)) (fun i _ => j - (RowKit.intOf i).toNat)
          case atStart => exact ⟨0, Nat.zero_le _, rfl, HX⟩
          case round =>
            clear HX
            obtain ⟨k, hk, rfl, HS⟩ := hrel
            by_cases hlt : k < j
            · have hi6 : (k : Int) < (j : Int) := by omega
              obtain ⟨f, f1, f2⟩ := HS.out.b
              have c1 := f1.cell (i := k) hlt
              have c0 := f1.cell (i := 0) (by omega)
              rw [f2 k hlt] at c1
              rw [f2 0 (by omega)] at c0
              have z2 := HS.out.l.frozen k
              have c2 := HS.out.l.cell (i := k) hlt
              have HS2 := HS.out.step
              have hl1 := hlow.out k hlt
              have hl0 := hlow.out 0 (by omega)
              obtain ⟨x, hx⟩ : ∃ x, Ch.low S lv r k = x := ⟨_, rfl⟩
              obtain ⟨y, hy⟩ : ∃ y, Ch.low S lv r 0 = y := ⟨_, rfl⟩
              simp only [hx, hy] at c1 c0 hl1 hl0
              obtain ⟨hl1, hl2⟩ := hl1
              obtain ⟨hl3, hl4⟩ := hl0
              replace HS2 : Hid (RW w (wr.setCell ⟨xb, k, none⟩ (.int .i64 (y - x))) ⟨w.heap.size, 0, none⟩ (.int .i64 j) lb xb j (Ch.low S lv r) (fun i => Ch.low S lv r 0 - Ch.low S lv r i) (fun _ => .int .i64 0) (k + 1)) := Lib.hid (by rw [← hx, ← hy]; exact HS2)
              have j0 : (0 : Int) < (j : Int) := by omega
              clear f1 f2 hx hy HS
              go_wp2
              go_roundw
              case rel => exact ⟨k + 1, by omega, by go_num, HS2⟩
              case measure => show j - ((k : Int) + 1).toNat < j - (k : Int).toNat; omega
            · obtain rfl : k = j := by omega
              have hi6 : ¬ (k : Int) < (k : Int) := by omega
              go_wp2
              go_ret2
              refine ⟨HS.out.bw, .inr ⟨rfl, xb, _, HS.out.l0, rfl, HS.out.l, fun i hi => ?_⟩⟩
              unfold flF
              rw [if_pos hi, Ch.reachF_at (by rw [hLV2.out.len]; exact hi), hR0.out]
end Go.Proofs.Ytkcchangkhklcaa
