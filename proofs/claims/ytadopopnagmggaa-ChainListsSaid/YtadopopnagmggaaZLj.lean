/- The law ChainLists, walked. -/
import Derived.Test.YtadopopnagmggaaZLc
import Derived.Test.YtadopopnagmggaaZLb
import Derived.Test.YtadopopnagmggaaZCc
import Derived.Test.YtadopopnagmggaaZRs
import Derived.Test.YtadopopnagmggaaZYa
import Derived.Deep.CutBlock
set_option linter.unusedSimpArgs false
set_option linter.unusedVariables false
namespace Go.Proofs.Ytadopopnagmggaa
open Go.RowKit

/-- the world in the law: the system in its box, the lists -/
structure LJ (w : World) (n : Int) (a b d : Option Addr) (m cap : Nat) (L : List Ch.Lk) (xl xs : List Int) (W : World) : Prop where
  c0 : W.cell? ⟨w.heap.size, 0, none⟩ = some (.int .i64 n)
  c1 : W.cell? ⟨w.heap.size, 1, none⟩ = some (.slice a m cap)
  l : LksAt W a L
  x : IntsAt W b xl
  y : IntsAt W d xs
  b : Below w.heap.size w W
theorem LJ.below {w W W' : World} {n : Int} {a b d : Option Addr} {m cap : Nat} {L : List Ch.Lk} {xl xs : List Int} (h : LJ w n a b d m cap L xl xs W) (hb : Below W.heap.size W W') : LJ w n a b d m cap L xl xs W' := ⟨kept1 h.c0 hb, kept1 h.c1 hb, h.l.below hb, h.x.below hb, h.y.below hb, h.b.trans (hb.mono h.b.size)⟩

theorem numbers_yes {n : Int} {l : List Int} (h : (decide ((l.length : Int) = n) && !l.any Ch.far) = true) : (l.length : Int) = n ∧ l.any Ch.far = false := by
  simp only [Bool.and_eq_true, decide_eq_true_eq, Bool.not_eq_true'] at h
  exact h
theorem fits_no {n : Int} {L : List Ch.Lk} {l : List Int} (hc : (Ch.check n L).1 = 0) (h : (decide ((l.length : Int) = n) && !l.any Ch.far) = false) : Ch.fits n L l = (false, 1) := by
  unfold Ch.fits
  rw [if_neg (by simpa using hc)]
  have h2 : (l.length : Int) ≠ n ∨ l.any Ch.far = true := by
    by_cases e : (l.length : Int) = n
    · cases e2 : l.any Ch.far
      · rw [e2, decide_eq_true e] at h; cases h
      · exact .inr rfl
    · exact .inl e
  rw [if_pos h2]
theorem fits_yes {n : Int} {L : List Ch.Lk} {l : List Int} (hc : (Ch.check n L).1 = 0) (h : (decide ((l.length : Int) = n) && !l.any Ch.far) = true) : Ch.fits n L l = (rsolves n L l, 0) := by
  obtain ⟨h1, h2⟩ := numbers_yes h
  unfold Ch.fits rsolves
  rw [if_neg (by simpa using hc)]
  have h3 : ¬ ((l.length : Int) ≠ n ∨ l.any Ch.far = true) := by rw [h2]; simp [h1]
  have h4 : ¬ ((l.length : Int) ≠ n) := fun hh => hh h1
  simp only [if_neg h3, if_neg h4]
  by_cases e : l.getD 0 0 = 0
  · have e3 : ¬ (l.getD 0 0 ≠ 0) := fun hh => hh e
    rw [if_neg e3]
    cases hs : Ch.solves L l
    · simp
    · rw [e]; simp
  · rw [if_pos e]
    have e2 : (l.getD 0 0 == 0) = false := by rw [beq_eq_false_iff_ne]; exact e
    rw [e2]
    cases hs : Ch.solves L l <;> simp

set_option maxRecDepth 100000 in
set_option maxHeartbeats 8000000 in
theorem lists_walk (n : Int) (a b d : Option Addr) (m cap p q c1 c2 : Nat) (u v : Int) (L : List Ch.Lk) (xl xs : List Int) (hm : Hid (L.length = m)) (hp : Hid (xl.length = p)) (hq : Hid (xs.length = q)) (hp9 : p ≤ 90) (hq9 : q ≤ 90) (hsm : Hid ((decide (m ≤ 310) && decide (n ≤ 70)) = true)) (hck : (Ch.check n L).1 = 0) (w : World) (hL : Hid (LksAt w a L)) (hx : Hid (IntsAt w b xl)) (hy : Hid (IntsAt w d xs)) :
    Calls Try.prog 4 #[sysV n a m cap, .int .i64 u, .int .i64 v, .slice b p c1, .slice d q c2] w (LawPost w) := by
  have HSm := Lib.hid fun (W : World) => small_any n a m cap true hsm W
  have HSa := Lib.hid fun (W : World) => sanity_any W
  obtain ⟨n1, n2, hm3, hokk⟩ := Ch.check_ok hck
  have hm4 : m ≤ 300 := by have := hm.out; omega
  have HCl := Lib.hid fun (W : World) (h : LJ w n a b d m cap L xl xs W) => checkClash_any n a cap L b c1 xl W h.l h.x
  have HCc := Lib.hid fun (W : World) (h : LJ w n a b d m cap L xl xs W) => checkChain_any n a cap L u v b c1 xl W h.l h.x
  have HFi := Lib.hid fun (W : World) (h : LJ w n a b d m cap L xl xs W) => fits_any n a cap L d c2 xs W h.l h.y
  have HEr := Lib.hid fun (W : World) (h : LJ w n a b d m cap L xl xs W) => rerror_any n a cap L W h.l
  rw [Ch.checkClash_want hck, hm.out, hp.out] at HCl
  rw [Ch.checkChain_want hck, hm.out, hp.out] at HCc
  rw [hm.out, hq.out] at HFi
  rw [hck, hm.out] at HEr
  obtain ⟨wK, hwc⟩ : ∃ x, Ch.clashWant L xl = x := ⟨_, rfl⟩
  obtain ⟨wd, hwd⟩ : ∃ x, Ch.chainWant n L u v xl = x := ⟨_, rfl⟩
  obtain ⟨⟨R1, R2, R3⟩, hsum⟩ : ∃ r, Ch.sumR L xl 0 u = r := ⟨_, rfl⟩
  obtain ⟨⟨fb, fe⟩, hfi⟩ : ∃ r, Ch.fits n L xs = r := ⟨_, rfl⟩
  rw [hwc] at HCl
  rw [hwd, hsum] at HCc
  rw [hfi] at HFi
  obtain ⟨cs, hcs⟩ : ∃ cs, (if wd = 0 then R1 else 0) = cs := ⟨_, rfl⟩
  simp only [hcs] at HCc
  replace hwc := Lib.hid hwc
  replace hwd := Lib.hid hwd
  replace hsum := Lib.hid hsum
  replace hfi := Lib.hid hfi
  replace hcs := Lib.hid hcs
  replace hokk := Lib.hid hokk
  replace hck := Lib.hid hck
  unfold sysV at *
  have hn1 : ¬ (90 : Int) < (p : Int) := by omega
  have hn2 : ¬ (90 : Int) < (q : Int) := by omega
  go_enter Try.func4, Try.ntmps4
  go_wp2_with fail
  refine (HSm.out _).mono ?_
  rintro e w1 ⟨rfl, hb⟩
  have hB1 := bstep1 (Below.refl _ _) hb
  have hJ := Lib.hid (LJ.mk (w := w) (n := n) (a := a) (m := m) (cap := cap) (W := w1) (kept1 (by simp [go_sem]) hb) (kept1 (by simp [go_sem]) hb) (hL.out.below hB1) (hx.out.below hB1) (hy.out.below hB1) hB1)
  clear hb hB1 HSm hsm hL hx hy
  have k0 := hJ.out.c0
  have k1 := hJ.out.c1
  go_wp2_with fail
  refine (HCl.out _ hJ.out).mono ?_
  rintro e w2 ⟨rfl, hb⟩
  have hJ2 := Lib.hid (hJ.out.below hb)
  clear hb hJ k0 k1 HCl w1
  have k0 := hJ2.out.c0
  have k1 := hJ2.out.c1
  go_wp2_with fail
  refine (HCc.out _ hJ2.out).mono ?_
  rintro e w3 ⟨rfl, hb⟩
  have hJ3 := Lib.hid (hJ2.out.below hb)
  clear hb hJ2 k0 k1 HCc w2
  have k0 := hJ3.out.c0
  have k1 := hJ3.out.c1
  go_wp2_with fail
  refine (HFi.out _ hJ3.out).mono ?_
  rintro e w4 ⟨rfl, hb⟩
  have hJ4 := Lib.hid (hJ3.out.below hb)
  clear hb hJ3 k0 k1 HFi w3
  have k0 := hJ4.out.c0
  have k1 := hJ4.out.c1
  go_wp2_with fail
  refine (HEr.out _ hJ4.out).mono ?_
  rintro e w5 ⟨rfl, hb⟩
  have hJ5 := Lib.hid (hJ4.out.below hb)
  clear hb hJ4 k0 k1 HEr w4
  have k0 := hJ5.out.c0
  have k1 := hJ5.out.c1
  have HIx := Lib.hid fun (W : World) (h : LJ w n a b d m cap L xl xs W) (r : Bool) (hr : xl.all (fun i => Ch.isIx i m) = r) => indices_any n a m cap b p c1 xl hp (by omega) r (Lib.hid hr) W (Lib.hid h.x)
  have HCd := Lib.hid fun (W : World) (h : LJ w n a b d m cap L xl xs W) (hr : xl.all (fun i => Ch.isIx i m) = true) (r : Bool) (hr2 : closedR L xl = r) => closed_any n a m cap b p c1 L xl hm hm4 hp hp9 hokk (Lib.hid hr) W (Lib.hid h.l) (Lib.hid h.x) r (Lib.hid hr2)
  have HSu := Lib.hid fun (W : World) (h : LJ w n a b d m cap L xl xs W) => sum_any n a m cap b p c1 L xl u hm hm4 hp hp9 hokk W (Lib.hid h.l) (Lib.hid h.x) R1 R2 R3 hsum
  have HNd := Lib.hid fun (W : World) (z : Int) (r : Bool) (hr : Ch.isIx z n = r) => node_any n a m cap z r (Lib.hid hr) W
  have HNu := Lib.hid fun (W : World) (h : LJ w n a b d m cap L xl xs W) (r : Bool) (hr : (decide ((q : Int) = n) && !xs.any Ch.far) = r) => numbers_any n a m cap d q c2 xs hq (by omega) r (Lib.hid hr) W (Lib.hid h.y)
  have HSo := Lib.hid fun (W : World) (h : LJ w n a b d m cap L xl xs W) (hf : ∀ k, k < xs.length → -1152921504606846976 ≤ xs.getD k 0 ∧ xs.getD k 0 ≤ 1152921504606846976) => rsolves_any n n1 a cap L hm3 hokk.out d c2 xs hf W h.l h.y
  rw [hm.out, hq.out] at HSo
  unfold sysV at *
  have hsum9 := hsum
  go_upto_block 0 with fail
  go_cut [17] from 81 to 94 (fun s17 wx => s17 = .int .i64 wK ∧ Hid (LJ w n a b d m cap L xl xs wx))
  case first =>
    clear HSa HSu HNd HNu HSo hwd hfi hcs hsum
    by_cases h1 : 80 < p
    · obtain rfl : 2 = wK := by rw [← hwc.out]; unfold Ch.clashWant; rw [if_pos (by have := hp.out; omega)]
      have g1 : (80 : Int) < (p : Int) := by omega
      clear hwc HIx HCd
      go_wp2_with fail
      go_meet
      case rel => exact ⟨rfl, hJ5⟩
    · have g1 : ¬ (80 : Int) < (p : Int) := by omega
      cases h2 : xl.all fun i => Ch.isIx i m
      · obtain rfl : 1 = wK := by rw [← hwc.out]; unfold Ch.clashWant; rw [if_neg (by have := hp.out; omega), if_pos (by rw [hm.out]; exact h2)]
        have HIx2 := Lib.hid (HIx.out w5 hJ5.out false h2)
        clear hwc HIx HCd h2
        go_wp2_with fail
        refine HIx2.out.mono ?_
        rintro e w6 ⟨rfl, hb⟩
        have hJ6 := Lib.hid (hJ5.out.below hb)
        clear hb HIx2
        go_wp2_with fail
        go_meet
        case rel => exact ⟨rfl, hJ6⟩
      · have hw9 : (if closedR L xl = false then (8 : Int) else 0) = wK := by
          have h3 : ¬ ((xl.all fun i => Ch.isIx i L.length) = false) := by rw [hm.out, h2]; simp
          have h4 : ¬ 80 < xl.length := by have := hp.out; omega
          rw [← hwc.out]; unfold Ch.clashWant; rw [if_neg h4, if_neg h3]
        have HIx2 := Lib.hid (HIx.out w5 hJ5.out true h2)
        have h2' := Lib.hid h2
        obtain ⟨r, hr⟩ : ∃ r, closedR L xl = r := ⟨_, rfl⟩
        rw [hr] at hw9
        replace hr := Lib.hid hr
        clear hwc HIx h2
        go_wp2_with fail
        refine HIx2.out.mono ?_
        rintro e w6 ⟨rfl, hb⟩
        have hJ6 := Lib.hid (hJ5.out.below hb)
        have k2 := hJ6.out.c0
        have k3 := hJ6.out.c1
        clear hb HIx2 k0 k1 hJ5
        go_wp2_with fail
        refine (HCd.out _ hJ6.out h2'.out r hr.out).mono ?_
        rintro e w7 ⟨rfl, hb⟩
        have hJ7 := Lib.hid (hJ6.out.below hb)
        clear hb hJ6 k2 k3 HCd
        cases r
        · obtain rfl : 8 = wK := by simpa using hw9
          clear hw9
          go_wp2_with fail
          go_meet
          case rel => exact ⟨rfl, hJ7⟩
        · obtain rfl : 0 = wK := by simpa using hw9
          clear hw9
          go_wp2_with fail
          go_meet
          case rel => exact ⟨rfl, hJ7⟩
  case rest =>
    generalize wc = Y at hcut ⊢
    clear wc
    obtain ⟨rfl, hJ6⟩ := hcut
    have k2 := hJ6.out.c0
    have k3 := hJ6.out.c1
    clear k0 k1 hJ5 hwc HCd
    go_wp2_with fail
    refine (HSu.out _ hJ6.out).mono ?_
    rintro e w7 ⟨rfl, hb⟩
    have hJ7 := Lib.hid (hJ6.out.below hb)
    clear hb hJ6 k2 k3 HSu
    have k0 := hJ7.out.c0
    have k1 := hJ7.out.c1
    go_upto_block 1 with fail
    go_cut [18] from 103 to 130 (fun s18 wx => s18 = .int .i64 wd ∧ Hid (LJ w n a b d m cap L xl xs wx))
    case first =>
      clear HSa HNu HSo hfi hcs hsum
      cases hu : Ch.isIx u n
      · obtain rfl : 1 = wd := by rw [← hwd.out]; unfold Ch.chainWant; rw [if_pos (.inl hu)]
        have HN1 := Lib.hid (HNd.out w7 u false hu)
        clear hwd HIx HNd hu
        go_wp2_with fail
        refine HN1.out.mono ?_
        rintro e w8 ⟨rfl, hb⟩
        have hJ8 := Lib.hid (hJ7.out.below hb)
        clear hb HN1
        go_wp2_with fail
        go_meet
        case rel => exact ⟨rfl, hJ8⟩
      · have HN1 := Lib.hid (HNd.out w7 u true hu)
        go_wp2_with fail
        refine HN1.out.mono ?_
        rintro e w8 ⟨rfl, hb⟩
        have hJ8 := Lib.hid (hJ7.out.below hb)
        have k2 := hJ8.out.c0
        have k3 := hJ8.out.c1
        clear hb HN1 k0 k1 hJ7
        cases hv : Ch.isIx v n
        · obtain rfl : 1 = wd := by rw [← hwd.out]; unfold Ch.chainWant; rw [if_pos (.inr hv)]
          have HN2 := Lib.hid (HNd.out w8 v false hv)
          clear hwd HIx HNd hu hv
          go_wp2_with fail
          refine HN2.out.mono ?_
          rintro e w9 ⟨rfl, hb⟩
          have hJ9 := Lib.hid (hJ8.out.below hb)
          clear hb HN2
          go_wp2_with fail
          go_meet
          case rel => exact ⟨rfl, hJ9⟩
        · have hnn : ¬ (Ch.isIx u n = false ∨ Ch.isIx v n = false) := by rw [hu, hv]; simp
          have HN2 := Lib.hid (HNd.out w8 v true hv)
          have hwd2 := hwd.out
          unfold Ch.chainWant at hwd2
          rw [if_neg hnn] at hwd2
          replace hwd2 := Lib.hid hwd2
          clear hwd HNd hu hv hnn
          by_cases h1 : 80 < p
          · obtain rfl : 2 = wd := by rw [← hwd2.out]; rw [if_pos (by have := hp.out; omega)]
            have g1 : (80 : Int) < (p : Int) := by omega
            clear hwd2 HIx
            go_wp2_with fail
            refine HN2.out.mono ?_
            rintro e w9 ⟨rfl, hb⟩
            have hJ9 := Lib.hid (hJ8.out.below hb)
            clear hb HN2
            go_wp2_with fail
            go_meet
            case rel => exact ⟨rfl, hJ9⟩
          · have g1 : ¬ (80 : Int) < (p : Int) := by omega
            have h4 : ¬ 80 < xl.length := by have := hp.out; omega
            have hwd3 := hwd2.out
            rw [if_neg h4, hm.out] at hwd3
            replace hwd3 := Lib.hid hwd3
            clear hwd2 h4
            go_wp2_with fail
            refine HN2.out.mono ?_
            rintro e w9 ⟨rfl, hb⟩
            have hJ9 := Lib.hid (hJ8.out.below hb)
            have k4 := hJ9.out.c0
            have k5 := hJ9.out.c1
            clear hb HN2 k2 k3 hJ8
            cases h2 : xl.all fun i => Ch.isIx i m
            · obtain rfl : 1 = wd := by have h := hwd3.out; rw [if_pos h2] at h; exact h
              have HI2 := Lib.hid (HIx.out w9 hJ9.out false h2)
              clear hwd3 HIx h2
              go_wp2_with fail
              refine HI2.out.mono ?_
              rintro e w10 ⟨rfl, hb⟩
              have hJ10 := Lib.hid (hJ9.out.below hb)
              clear hb HI2
              go_wp2_with fail
              go_meet
              case rel => exact ⟨rfl, hJ10⟩
            · have HI2 := Lib.hid (HIx.out w9 hJ9.out true h2)
              have hwd4 : (if R3 = false ∨ R2 ≠ v then (8 : Int) else 0) = wd := by
                have h := hwd3.out
                have h3 : ¬ ((xl.all fun i => Ch.isIx i m) = false) := by rw [h2]; simp
                rw [if_neg h3, hsum9.out] at h
                exact h
              replace hwd4 := Lib.hid hwd4
              clear hwd3 HIx h2
              go_wp2_with fail
              refine HI2.out.mono ?_
              rintro e w10 ⟨rfl, hb⟩
              have hJ10 := Lib.hid (hJ9.out.below hb)
              clear hb HI2 k4 k5 hJ9
              cases R3
              · obtain rfl : 8 = wd := by have h := hwd4.out; rw [if_pos (.inl rfl)] at h; exact h
                clear hwd4
                go_wp2_with fail
                go_meet
                case rel => exact ⟨rfl, hJ10⟩
              · by_cases h3 : R2 = v
                · obtain rfl : 0 = wd := by have h := hwd4.out; rw [if_neg (by simp [h3])] at h; exact h
                  have g3 : (R2 != v) = false := by rw [h3]; simp
                  clear hwd4
                  subst h3
                  go_wp2_with fail
                  go_meet
                  case rel => exact ⟨rfl, hJ10⟩
                · obtain rfl : 8 = wd := by have h := hwd4.out; rw [if_pos (.inr h3)] at h; exact h
                  have g3 : (R2 != v) = true := by rw [bne_iff_ne]; exact h3
                  clear hwd4
                  go_wp2_with fail
                  go_meet
                  case rel => exact ⟨rfl, hJ10⟩
    case rest =>
      generalize wc = Y at hcut ⊢
      clear wc
      obtain ⟨rfl, hJ8⟩ := hcut
      have k2 := hJ8.out.c0
      have k3 := hJ8.out.c1
      clear k0 k1 hJ7 hwd HIx HNd hsum hsum9
      obtain ⟨r, hr⟩ : ∃ r, (decide ((q : Int) = n) && !xs.any Ch.far) = r := ⟨_, rfl⟩
      have HNu2 := Lib.hid (HNu.out _ hJ8.out r hr)
      replace hr := Lib.hid hr
      have hcz : (wd = 0 ∧ cs = R1) ∨ (wd ≠ 0 ∧ cs = 0) := by
        have h := hcs.out
        by_cases e : wd = 0
        · rw [if_pos e] at h; exact .inl ⟨e, h.symm⟩
        · rw [if_neg e] at h; exact .inr ⟨e, h.symm⟩
      clear hcs HNu
      have hkk : (wK != wK) = false := by simp
      have hdd : (wd != wd) = false := by simp
      have hrr : (R1 != R1) = false := by simp
      rcases hcz with ⟨rfl, rfl⟩ | ⟨hz, rfl⟩
      · skip
        go_wp2_with fail
        refine HNu2.out.mono ?_
        rintro e w9 ⟨rfl, hb⟩
        have hJ9 := Lib.hid (hJ8.out.below hb)
        have k4 := hJ9.out.c0
        have k5 := hJ9.out.c1
        clear hb HNu2 k2 k3 hJ8
        cases r
        · obtain ⟨rfl, rfl⟩ : fb = false ∧ fe = 1 := by have h := hfi.out; rw [fits_no hck.out (by rw [hq.out]; exact hr.out)] at h; exact ⟨(Prod.mk.inj h).1.symm, (Prod.mk.inj h).2.symm⟩
          clear hfi hr HSo
          go_wp2_with fail
          refine (HSa.out _).mono ?_
          rintro e w10 ⟨rfl, hb⟩
          have hB10 := hJ9.out.b.trans (hb.mono hJ9.out.b.size)
          clear hb hJ9 k4 k5
          go_wp2
          go_ret
          exact ⟨rfl, hB10⟩
        · have hr2 := hr.out
          obtain ⟨hnr, hfar⟩ := numbers_yes (by rw [hq.out]; exact hr2)
          obtain ⟨rfl, rfl⟩ : fb = rsolves n L xs ∧ fe = 0 := by have h := hfi.out; rw [fits_yes hck.out (by rw [hq.out]; exact hr2)] at h; exact ⟨(Prod.mk.inj h).1.symm, (Prod.mk.inj h).2.symm⟩
          have hfar2 := Ch.any_far hfar
          rw [hq.out] at hfar2
          replace hfar2 := Lib.hid hfar2
          clear hfi hr hr2 hnr hfar
          go_wp2_with fail
          refine (HSa.out _).mono ?_
          rintro e w10 ⟨rfl, hb⟩
          have hJ10 := Lib.hid (hJ9.out.below hb)
          have k2 := hJ10.out.c0
          have k3 := hJ10.out.c1
          clear hb hJ9 k4 k5
          have HSo2 := Lib.hid (HSo.out _ hJ10.out hfar2.out)
          clear HSo
          generalize rsolves n L xs = sv at *
          go_wp2_with fail
          refine HSo2.out.mono ?_
          rintro e w11 ⟨rfl, hb⟩
          have hB11 := hJ10.out.b.trans (hb.mono hJ10.out.b.size)
          have hvv : (sv == sv) = true := by simp
          clear hb hJ10 k2 k3
          go_wp2
          go_ret
          exact ⟨rfl, hB11⟩
      · have hz1 : (wd == 0) = false := by rw [beq_eq_false_iff_ne]; exact hz
        have hz2 : (wd != 0) = true := by rw [bne_iff_ne]; exact hz
        go_wp2_with fail
        refine HNu2.out.mono ?_
        rintro e w9 ⟨rfl, hb⟩
        have hJ9 := Lib.hid (hJ8.out.below hb)
        have k4 := hJ9.out.c0
        have k5 := hJ9.out.c1
        clear hb HNu2 k2 k3 hJ8
        cases r
        · obtain ⟨rfl, rfl⟩ : fb = false ∧ fe = 1 := by have h := hfi.out; rw [fits_no hck.out (by rw [hq.out]; exact hr.out)] at h; exact ⟨(Prod.mk.inj h).1.symm, (Prod.mk.inj h).2.symm⟩
          clear hfi hr HSo
          go_wp2_with fail
          refine (HSa.out _).mono ?_
          rintro e w10 ⟨rfl, hb⟩
          have hB10 := hJ9.out.b.trans (hb.mono hJ9.out.b.size)
          clear hb hJ9 k4 k5
          go_wp2
          go_ret
          exact ⟨rfl, hB10⟩
        · have hr2 := hr.out
          obtain ⟨hnr, hfar⟩ := numbers_yes (by rw [hq.out]; exact hr2)
          obtain ⟨rfl, rfl⟩ : fb = rsolves n L xs ∧ fe = 0 := by have h := hfi.out; rw [fits_yes hck.out (by rw [hq.out]; exact hr2)] at h; exact ⟨(Prod.mk.inj h).1.symm, (Prod.mk.inj h).2.symm⟩
          have hfar2 := Ch.any_far hfar
          rw [hq.out] at hfar2
          replace hfar2 := Lib.hid hfar2
          clear hfi hr hr2 hnr hfar
          go_wp2_with fail
          refine (HSa.out _).mono ?_
          rintro e w10 ⟨rfl, hb⟩
          have hJ10 := Lib.hid (hJ9.out.below hb)
          have k2 := hJ10.out.c0
          have k3 := hJ10.out.c1
          clear hb hJ9 k4 k5
          have HSo2 := Lib.hid (HSo.out _ hJ10.out hfar2.out)
          clear HSo
          generalize rsolves n L xs = sv at *
          go_wp2_with fail
          refine HSo2.out.mono ?_
          rintro e w11 ⟨rfl, hb⟩
          have hB11 := hJ10.out.b.trans (hb.mono hJ10.out.b.size)
          have hvv : (sv == sv) = true := by simp
          clear hb hJ10 k2 k3
          go_wp2
          go_ret
          exact ⟨rfl, hB11⟩

set_option maxRecDepth 100000 in
set_option maxHeartbeats 8000000 in
theorem lists_bad (n : Int) (a b d : Option Addr) (m cap p q c1 c2 : Nat) (u v : Int) (L : List Ch.Lk) (xl xs : List Int) (hm : Hid (L.length = m)) (hp : Hid (xl.length = p)) (hq : Hid (xs.length = q)) (hp9 : p ≤ 90) (hq9 : q ≤ 90) (hsm : Hid ((decide (m ≤ 310) && decide (n ≤ 70)) = true)) (ec : Int) (hck : (Ch.check n L).1 = ec) (hec : ec ≠ 0) (w : World) (hL : Hid (LksAt w a L)) (hx : Hid (IntsAt w b xl)) (hy : Hid (IntsAt w d xs)) :
    Calls Try.prog 4 #[sysV n a m cap, .int .i64 u, .int .i64 v, .slice b p c1, .slice d q c2] w (LawPost w) := by
  have HSm := Lib.hid fun (W : World) => small_any n a m cap true hsm W
  have HSa := Lib.hid fun (W : World) => sanity_any W
  have hne : (Ch.check n L).1 ≠ 0 := by rw [hck]; exact hec
  have HCl := Lib.hid fun (W : World) (h : LJ w n a b d m cap L xl xs W) => checkClash_any n a cap L b c1 xl W h.l h.x
  have HCc := Lib.hid fun (W : World) (h : LJ w n a b d m cap L xl xs W) => checkChain_any n a cap L u v b c1 xl W h.l h.x
  have HFi := Lib.hid fun (W : World) (h : LJ w n a b d m cap L xl xs W) => fits_any n a cap L d c2 xs W h.l h.y
  have HEr := Lib.hid fun (W : World) (h : LJ w n a b d m cap L xl xs W) => rerror_any n a cap L W h.l
  rw [Ch.checkClash_bad hne, hck, hm.out, hp.out] at HCl
  rw [Ch.checkChain_bad hne, hck, hm.out, hp.out] at HCc
  rw [Ch.fits_bad hne, hck, hm.out, hq.out] at HFi
  rw [hck, hm.out] at HEr
  unfold sysV at *
  have hn1 : ¬ (90 : Int) < (p : Int) := by omega
  have hn2 : ¬ (90 : Int) < (q : Int) := by omega
  have hz2 : (ec != 0) = true := by rw [bne_iff_ne]; exact hec
  have hz3 : (ec == ec) = true := by simp
  clear hck hne
  go_enter Try.func4, Try.ntmps4
  go_wp2_with fail
  refine (HSm.out _).mono ?_
  rintro e w1 ⟨rfl, hb⟩
  have hB1 := bstep1 (Below.refl _ _) hb
  have hJ := Lib.hid (LJ.mk (w := w) (n := n) (a := a) (m := m) (cap := cap) (W := w1) (kept1 (by simp [go_sem]) hb) (kept1 (by simp [go_sem]) hb) (hL.out.below hB1) (hx.out.below hB1) (hy.out.below hB1) hB1)
  clear hb hB1 HSm hsm hL hx hy
  have k0 := hJ.out.c0
  have k1 := hJ.out.c1
  go_wp2_with fail
  refine (HCl.out _ hJ.out).mono ?_
  rintro e w2 ⟨rfl, hb⟩
  have hJ2 := Lib.hid (hJ.out.below hb)
  clear hb hJ k0 k1 HCl w1
  have k0 := hJ2.out.c0
  have k1 := hJ2.out.c1
  go_wp2_with fail
  refine (HCc.out _ hJ2.out).mono ?_
  rintro e w3 ⟨rfl, hb⟩
  have hJ3 := Lib.hid (hJ2.out.below hb)
  clear hb hJ2 k0 k1 HCc w2
  have k0 := hJ3.out.c0
  have k1 := hJ3.out.c1
  go_wp2_with fail
  refine (HFi.out _ hJ3.out).mono ?_
  rintro e w4 ⟨rfl, hb⟩
  have hJ4 := Lib.hid (hJ3.out.below hb)
  clear hb hJ3 k0 k1 HFi w3
  have k0 := hJ4.out.c0
  have k1 := hJ4.out.c1
  go_wp2_with fail
  refine (HEr.out _ hJ4.out).mono ?_
  rintro e w5 ⟨rfl, hb⟩
  have hJ5 := Lib.hid (hJ4.out.below hb)
  clear hb hJ4 k0 k1 HEr w4
  go_wp2_with fail
  refine (HSa.out _).mono ?_
  rintro e w6 ⟨rfl, hb⟩
  have hB6 := hJ5.out.b.trans (hb.mono hJ5.out.b.size)
  clear hb hJ5
  go_wp2
  go_ret
  exact ⟨rfl, hB6⟩

set_option maxRecDepth 100000 in
set_option maxHeartbeats 4000000 in
theorem lists_other (n : Int) (a b d : Option Addr) (m cap p q c1 c2 : Nat) (u v : Int) (h : ¬ ((decide (m ≤ 310) && decide (n ≤ 70)) = true ∧ p ≤ 90 ∧ q ≤ 90)) (w : World) :
    Calls Try.prog 4 #[sysV n a m cap, .int .i64 u, .int .i64 v, .slice b p c1, .slice d q c2] w (LawPost w) := by
  have HSa := Lib.hid fun (W : World) => sanity_any W
  obtain ⟨sm, hsm⟩ : ∃ sm, (decide (m ≤ 310) && decide (n ≤ 70)) = sm := ⟨_, rfl⟩
  have HSm := Lib.hid fun (W : World) => small_any n a m cap sm (Lib.hid hsm) W
  rw [hsm] at h
  replace h := Lib.hid h
  clear hsm
  unfold sysV at *
  cases sm
  · go_enter Try.func4, Try.ntmps4
    go_wp2_with fail
    refine (HSm.out _).mono ?_
    rintro e w1 ⟨rfl, hb⟩
    have hB1 := bstep1 (Below.refl _ _) hb
    clear hb HSm
    go_wp2_with fail
    refine (HSa.out _).mono ?_
    rintro e w4 ⟨rfl, hb⟩
    go_wp2
    go_ret
    exact ⟨rfl, hB1.trans (hb.mono hB1.size)⟩
  · by_cases h1 : p ≤ 90
    · have hn1 : ¬ (90 : Int) < (p : Int) := by omega
      have hn2 : (90 : Int) < (q : Int) := by
        by_cases e : q ≤ 90
        · exact absurd ⟨rfl, h1, e⟩ h.out
        · omega
      go_enter Try.func4, Try.ntmps4
      go_wp2_with fail
      refine (HSm.out _).mono ?_
      rintro e w1 ⟨rfl, hb⟩
      have hB1 := bstep1 (Below.refl _ _) hb
      clear hb HSm
      go_wp2_with fail
      refine (HSa.out _).mono ?_
      rintro e w4 ⟨rfl, hb⟩
      go_wp2
      go_ret
      exact ⟨rfl, hB1.trans (hb.mono hB1.size)⟩
    · have hn1 : (90 : Int) < (p : Int) := by omega
      go_enter Try.func4, Try.ntmps4
      go_wp2_with fail
      refine (HSm.out _).mono ?_
      rintro e w1 ⟨rfl, hb⟩
      have hB1 := bstep1 (Below.refl _ _) hb
      clear hb HSm
      go_wp2_with fail
      refine (HSa.out _).mono ?_
      rintro e w4 ⟨rfl, hb⟩
      go_wp2
      go_ret
      exact ⟨rfl, hB1.trans (hb.mono hB1.size)⟩

/-- the law, whatever the lists -/
theorem chainLists_true (w : World) (n : Int) (a : Option Addr) (m cap : Nat) (_ : I64 n) (_ : a = none → cap = 0) (_ : m ≤ maxLen) (L : List Ch.Lk) (hm : L.length = m) (hL : LksAt w a L) (_ : ∀ i, i < m → I64l (L.getD i Ch.noLk)) (u : Int) (_ : I64 u) (v : Int) (_ : I64 v)
    (b : Option Addr) (p c1 : Nat) (_ : b = none → c1 = 0) (_ : p ≤ maxLen) (xl : List Int) (hp : xl.length = p) (hx : IntsAt w b xl) (_ : ∀ i, i < p → I64 (xl.getD i 0)) (d : Option Addr) (q c2 : Nat) (_ : d = none → c2 = 0) (_ : q ≤ maxLen) (xs : List Int) (hq : xs.length = q) (hy : IntsAt w d xs) (_ : ∀ i, i < q → I64 (xs.getD i 0)) :
    Calls Try.prog 4 #[sysV n a m cap, .int .i64 u, .int .i64 v, .slice b p c1, .slice d q c2] w (LawPost w) := by
  by_cases h : (decide (m ≤ 310) && decide (n ≤ 70)) = true ∧ p ≤ 90 ∧ q ≤ 90
  · obtain ⟨h1, h2, h3⟩ := h
    by_cases hc : (Ch.check n L).1 = 0
    · exact lists_walk n a b d m cap p q c1 c2 u v L xl xs (Lib.hid hm) (Lib.hid hp) (Lib.hid hq) h2 h3 (Lib.hid h1) hc w (Lib.hid hL) (Lib.hid hx) (Lib.hid hy)
    · exact lists_bad n a b d m cap p q c1 c2 u v L xl xs (Lib.hid hm) (Lib.hid hp) (Lib.hid hq) h2 h3 (Lib.hid h1) _ rfl hc w (Lib.hid hL) (Lib.hid hx) (Lib.hid hy)
  · exact lists_other n a b d m cap p q c1 c2 u v h w
end Go.Proofs.Ytadopopnagmggaa
