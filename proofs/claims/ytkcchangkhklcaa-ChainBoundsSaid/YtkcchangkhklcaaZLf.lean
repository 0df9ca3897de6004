/- The law ChainBounds, walked. -/
import Derived.Test.YtkcchangkhklcaaZQe
import Derived.Test.YtkcchangkhklcaaZYk
import Derived.Test.YtkcchangkhklcaaZRh
import Derived.Test.YtkcchangkhklcaaZRs
import Derived.Test.YtkcchangkhklcaaZ06
import Derived.Test.YtkcchangkhklcaaZYa
import Derived.Deep.RegionHeld
import Derived.BigQuiet
set_option linter.unusedSimpArgs false
set_option linter.unusedVariables false
namespace Go.Proofs.Ytkcchangkhklcaa
open Go.RowKit

theorem rsolves_of_fits {n : Int} {L : List Ch.Lk} {x : List Int} (h : Ch.fits n L x = (true, 0)) : rsolves n L x = true := by
  unfold Ch.fits at h
  by_cases h1 : (Ch.check n L).1 ≠ 0
  · rw [if_pos h1] at h; cases h
  · rw [if_neg h1] at h
    by_cases h2 : (x.length : Int) ≠ n ∨ x.any Ch.far = true
    · rw [if_pos h2] at h; cases h
    · rw [if_neg h2] at h
      by_cases h3 : Ch.solves L x = true
      · rw [if_pos h3] at h
        have h4 : x.getD 0 0 = 0 := by
          have := (Prod.mk.inj h).1
          rwa [beq_iff_eq] at this
        unfold rsolves
        rw [if_neg (fun h => h2 (.inl h)), if_neg (fun h => h h4), h3]
      · rw [if_neg h3] at h; cases h
/-- the world in the law's last test -/
structure BQ (w : World) (N : Nat) (a : Option Addr) (m cap : Nat) (L : List Ch.Lk) (ob : Nat) (R2 : Nat → Nat) (D : Nat → Nat → Int) (pc : Option Addr) (cl : List Nat) (xb : Nat) (Y : List Int) (W : World) : Prop where
  j : SB w (N : Int) a m cap L W
  t : TB2 N ob R2 D W
  c : IntsAt W pc (Ch.ints cl)
  y : IntsAt W (some ⟨xb, 0, none⟩) Y
theorem BQ.below {w W W' : World} {N : Nat} {a : Option Addr} {m cap : Nat} {L : List Ch.Lk} {ob : Nat} {R2 : Nat → Nat} {D : Nat → Nat → Int} {pc : Option Addr} {cl : List Nat} {xb : Nat} {Y : List Int} (h : BQ w N a m cap L ob R2 D pc cl xb Y W) (hb : Below W.heap.size W W') : BQ w N a m cap L ob R2 D pc cl xb Y W' := ⟨h.j.below hb, h.t.below hb, h.c.below hb, h.y.below hb⟩
theorem keepBQ {W W' : World} {p0 p1 p2 p3 p4 p5 : Addr} {x0 x1 x2 x3 x4 x5 : Value} {Z : World → Prop} (hZ : ∀ {W W' : World}, Z W → Below W.heap.size W W' → Z W') (h : W.cell? p0 = some x0 ∧ W.cell? p1 = some x1 ∧ W.cell? p2 = some x2 ∧ W.cell? p3 = some x3 ∧ W.cell? p4 = some x4 ∧ W.cell? p5 = some x5 ∧ Z W) (hb : Below W.heap.size W W') :
    W'.cell? p0 = some x0 ∧ W'.cell? p1 = some x1 ∧ W'.cell? p2 = some x2 ∧ W'.cell? p3 = some x3 ∧ W'.cell? p4 = some x4 ∧ W'.cell? p5 = some x5 ∧ Z W' :=
  ⟨kept1 h.1 hb, kept1 h.2.1 hb, kept1 h.2.2.1 hb, kept1 h.2.2.2.1 hb, kept1 h.2.2.2.2.1 hb, kept1 h.2.2.2.2.2.1 hb, hZ h.2.2.2.2.2.2 hb⟩

set_option linter.unusedSimpArgs false in
set_option maxRecDepth 100000 in
set_option maxHeartbeats 16000000 in
theorem bounds_other (n : Int) (a : Option Addr) (m cap : Nat) (u v : Int) (hsm : Hid ((decide (m ≤ 310) && decide (n ≤ 70)) = false)) (w : World) :
    Calls Try.prog 4 #[sysV n a m cap, .int .i64 u, .int .i64 v] w (LawPost w) := by
  have HSa := Lib.hid fun (W : World) => sanity_any W
  have HSm := Lib.hid fun (W : World) => small_any n a m cap false hsm W
  clear hsm
  unfold sysV at *
  go_enter Try.func4, Try.ntmps4
  go_wp2_with fail
  refine (HSm.out _).mono ?_
  rintro e w1 ⟨rfl, hb⟩
  have hB1 := bstep1 (Below.refl _ _) hb
  clear hb HSm
  go_wp2_with fail
  refine (HSa.out _).mono ?_
  rintro e w99 ⟨rfl, hb⟩
  have hB := (hB1).trans (hb.mono (hB1).size)
  clear hb
  go_wp2
  go_ret
  exact ⟨rfl, hB⟩
set_option linter.unusedSimpArgs false in
set_option maxRecDepth 100000 in
set_option maxHeartbeats 16000000 in
theorem bounds_bad (n : Int) (a : Option Addr) (m cap : Nat) (u v : Int) (L : List Ch.Lk) (hm : Hid (L.length = m)) (hsm : Hid ((decide (m ≤ 310) && decide (n ≤ 70)) = true)) (k : Nat) (hE : Ch.EN n L k) (ho : ¬ Ch.opn n L [u, v] k = 0) (w : World) (hL : Hid (LksAt w a L)) :
    Calls Try.prog 4 #[sysV n a m cap, .int .i64 u, .int .i64 v] w (LawPost w) := by
  have HSm := Lib.hid fun (W : World) => small_any n a m cap true hsm W
  have HSa := Lib.hid fun (W : World) => sanity_any W
  have HBo := Lib.hid fun (W : World) (h : SB w n a m cap L W) => bound_any n a cap L u v k hE.en W h.l
  have HRe := Lib.hid fun (W : World) (h : SB w n a m cap L W) => reach_any n a cap L u v k hE.en hE.cons W h.l
  have HAs := Lib.hid fun (W : World) (h : SB w n a m cap L W) => asked_any n a m cap L hm u v k hE W (Lib.hid h.l)
  have hbo : Ch.bound n L k u v = (0, Ch.opn n L [u, v] k) := by unfold Ch.bound; rw [if_pos ho]
  have hch : Ch.chain n L k u v = some ([], Ch.opn n L [u, v] k) := by unfold Ch.chain; rw [if_pos ho]
  have hre : Ch.reach n L k u v = ([], Ch.opn n L [u, v] k) := by unfold Ch.reach; rw [if_pos ho]
  have HCh := Lib.hid fun (W : World) (h : SB w n a m cap L W) => chain_any n a cap L u v k hE.en [] _ hch W h.l
  rw [hbo] at HBo
  rw [hre] at HRe
  rw [hm.out] at HBo HCh HRe
  obtain ⟨ec, hec⟩ : ∃ ec, Ch.opn n L [u, v] k = ec := ⟨_, rfl⟩
  rw [hec] at HBo HCh HRe HAs ho
  have g1 : (ec != 0) = true := by rw [bne_iff_ne]; exact ho
  have g2 : (ec != ec) = false := by simp
  have g4 : (ec == 0) = false := by rw [beq_eq_false_iff_ne]; exact ho
  replace ho := Lib.hid ho
  unfold sysV at *
  clear hE hbo hch hre hec
  go_enter Try.func4, Try.ntmps4
  go_wp2_with fail
  refine (HSm.out _).mono ?_
  rintro e w1 ⟨rfl, hb⟩
  have hB1 := bstep1 (Below.refl _ _) hb
  have hJ1 := Lib.hid (SB.mk (w := w) (n := n) (a := a) (m := m) (cap := cap) (W := w1) (kept1 (by simp [go_sem]) hb) (kept1 (by simp [go_sem]) hb) (hL.out.below hB1) hB1)
  clear hb hB1 HSm hsm hL
  have k0 := hJ1.out.c0
  have k1 := hJ1.out.c1
  go_wp2_with fail
  refine (HBo.out _ hJ1.out).mono ?_
  rintro e w2 ⟨rfl, hb⟩
  have hJ2 := Lib.hid (hJ1.out.below hb)
  clear hb k0 k1 hJ1 HBo
  have k0 := hJ2.out.c0
  have k1 := hJ2.out.c1
  go_wp2_with fail
  refine (HCh.out _ hJ2.out).mono ?_
  rintro e w3 ⟨cv, rfl, hown, hb⟩
  obtain ⟨p3, c3, rfl, _⟩ := ints_of_own hown
  have hJ3 := Lib.hid (hJ2.out.below hb)
  clear hb k0 k1 hJ2 HCh hown
  have k0 := hJ3.out.c0
  have k1 := hJ3.out.c1
  go_wp2_with fail
  refine (HRe.out _ hJ3.out).mono ?_
  rintro e w4 ⟨hb, h⟩
  obtain ⟨_, rfl⟩ := h.resolve_right (fun h => ho.out h.1)
  have hJ4 := Lib.hid (hJ3.out.below hb)
  clear hb k0 k1 hJ3 HRe h
  have k0 := hJ4.out.c0
  have k1 := hJ4.out.c1
  go_wp2_with fail
  refine (HAs.out _ hJ4.out).mono ?_
  rintro e w5 ⟨rfl, hb⟩
  have hJ5 := Lib.hid (hJ4.out.below hb)
  clear hb k0 k1 hJ4 HAs
  go_wp2_with fail
  refine (HSa.out _).mono ?_
  rintro e w99 ⟨rfl, hb⟩
  have hB := (hJ5.out.b).trans (hb.mono (hJ5.out.b).size)
  clear hb hJ5
  go_wp2
  go_ret
  exact ⟨rfl, hB⟩
set_option linter.unusedSimpArgs false in
set_option maxRecDepth 100000 in
set_option maxHeartbeats 16000000 in
theorem bounds_free (n : Int) (a : Option Addr) (m cap : Nat) (u v : Int) (L : List Ch.Lk) (hm : Hid (L.length = m)) (hsm : Hid ((decide (m ≤ 310) && decide (n ≤ 70)) = true)) (k : Nat) (hE : Ch.EN n L k) (ho : Ch.opn n L [u, v] k = 0) (hf : Ch.tb n L k u.toNat v.toNat = 1152921504606846976) (w : World) (hL : Hid (LksAt w a L)) :
    Calls Try.prog 4 #[sysV n a m cap, .int .i64 u, .int .i64 v] w (LawPost w) := by
  have HSm := Lib.hid fun (W : World) => small_any n a m cap true hsm W
  have HSa := Lib.hid fun (W : World) => sanity_any W
  have HBo := Lib.hid fun (W : World) (h : SB w n a m cap L W) => bound_any n a cap L u v k hE.en W h.l
  have HRe := Lib.hid fun (W : World) (h : SB w n a m cap L W) => reach_any n a cap L u v k hE.en hE.cons W h.l
  have HAs := Lib.hid fun (W : World) (h : SB w n a m cap L W) => asked_any n a m cap L hm u v k hE W (Lib.hid h.l)
  obtain ⟨hck, hu, hv, _⟩ := Ch.opn_at hE ho
  have ho0 : Ch.opn n L [] k = 0 := by rw [Ch.opn_nil hck, if_pos (Ch.opn_ok ho).2.2]
  have hyes := hE.cons hck (Ch.opn_ok ho).2.2
  obtain ⟨n1, n2, n3, hok⟩ := Ch.check_ok hck
  have hft : ∀ x y, x < n.toNat → y < n.toNat → Ch.fyT n.toNat L x y = Ch.tb n L k x y := fun x y hx hy => Ch.fyT_tb hE ho0 hx hy
  have HRt := Lib.hid fun (W : World) (h : SB w n a m cap L W) => rtight_any n a m cap L hm hck W (Lib.hid h.l)
  have hf' : (Ch.bt n.toNat L [] k v.toNat).getD u.toNat 0 = Ch.free := hf
  have hbo : Ch.bound n L k u v = (0, 5) := by unfold Ch.bound; rw [if_neg (fun h => h ho), if_pos hf']
  have hch : Ch.chain n L k u v = some ([], 5) := by unfold Ch.chain; rw [if_neg (fun h => h ho), if_pos hf']
  have hre : Ch.reach n L k u v = ([], 5) := by unfold Ch.reach; rw [if_neg (fun h => h ho), if_pos hf']
  have HCh := Lib.hid fun (W : World) (h : SB w n a m cap L W) => chain_any n a cap L u v k hE.en [] _ hch W h.l
  rw [hbo] at HBo
  rw [hre] at HRe
  rw [ho] at HAs
  rw [hm.out] at HBo HCh HRe
  obtain ⟨N, rfl⟩ : ∃ N : Nat, n = (N : Int) := ⟨n.toNat, by omega⟩
  obtain ⟨i, rfl⟩ : ∃ i : Nat, u = (i : Int) := ⟨u.toNat, by omega⟩
  obtain ⟨j, rfl⟩ : ∃ j : Nat, v = (j : Int) := ⟨v.toNat, by omega⟩
  simp only [Int.toNat_natCast] at *
  have hui : i < N := by omega
  have hvj : j < N := by omega
  have hui2 : (i : Int) < (N : Int) := by omega
  have hvj2 : (j : Int) < (N : Int) := by omega
  have hui0 : (0 : Int) ≤ (i : Int) := by omega
  have hvj0 : (0 : Int) ≤ (j : Int) := by omega
  obtain ⟨D, hD⟩ : ∃ D, Ch.tb N L k = D := ⟨_, rfl⟩
  rw [hD] at hft hf
  replace hft := Lib.hid hft
  replace hf := Lib.hid hf
  replace hyes := Lib.hid hyes
  unfold sysV at *
  clear hE hbo hch hre ho ho0 hck hok hD hf'
  go_enter Try.func4, Try.ntmps4
  go_wp2_with fail
  refine (HSm.out _).mono ?_
  rintro e w1 ⟨rfl, hb⟩
  have hB1 := bstep1 (Below.refl _ _) hb
  have hJ1 := Lib.hid (SB.mk (w := w) (n := (N : Int)) (a := a) (m := m) (cap := cap) (W := w1) (kept1 (by simp [go_sem]) hb) (kept1 (by simp [go_sem]) hb) (hL.out.below hB1) hB1)
  clear hb hB1 HSm hsm hL
  have k0 := hJ1.out.c0
  have k1 := hJ1.out.c1
  go_wp2_with fail
  refine (HBo.out _ hJ1.out).mono ?_
  rintro e w2 ⟨rfl, hb⟩
  have hJ2 := Lib.hid (hJ1.out.below hb)
  clear hb k0 k1 hJ1 HBo
  have k0 := hJ2.out.c0
  have k1 := hJ2.out.c1
  go_wp2_with fail
  refine (HCh.out _ hJ2.out).mono ?_
  rintro e w3 ⟨cv, rfl, hown, hb⟩
  obtain ⟨p3, c3, rfl, _⟩ := ints_of_own hown
  have hJ3 := Lib.hid (hJ2.out.below hb)
  clear hb k0 k1 hJ2 HCh hown
  have k0 := hJ3.out.c0
  have k1 := hJ3.out.c1
  go_wp2_with fail
  refine (HRe.out _ hJ3.out).mono ?_
  rintro e w4 ⟨hb, h⟩
  obtain ⟨_, rfl⟩ := h.resolve_right (fun h => absurd h.1 (by decide))
  have hJ4 := Lib.hid (hJ3.out.below hb)
  clear hb k0 k1 hJ3 HRe h
  have k0 := hJ4.out.c0
  have k1 := hJ4.out.c1
  go_wp2_with fail
  refine (HAs.out _ hJ4.out).mono ?_
  rintro e w5 ⟨rfl, hb⟩
  have hJ5 := Lib.hid (hJ4.out.below hb)
  clear hb k0 k1 hJ4 HAs
  have k0 := hJ5.out.c0
  have k1 := hJ5.out.c1
  go_wp2_with fail
  refine (HRt.out _ hJ5.out).mono ?_
  rintro e w6 ⟨hb, h⟩
  obtain ⟨_, ob, dc, R2, rfl, ht⟩ := h.resolve_left (fun h => h.1 hyes.out)
  have hJ6 := Lib.hid (hJ5.out.below hb)
  have hU6 := Lib.hid (ht.congr (fun x y hx hy => hft.out x y hx hy))
  clear hb k0 k1 hJ5 HRt h ht hyes hft
  have d0 := hU6.out.o i hui
  have d1 := hU6.out.get hui hvj
  rw [hf.out] at d1
  go_wp2_with fail
  refine (HSa.out _).mono ?_
  rintro e w99 ⟨rfl, hb⟩
  have hB := (hJ6.out.b).trans (hb.mono (hJ6.out.b).size)
  clear hb hJ6 hU6 d0 d1
  go_wp2
  go_ret
  exact ⟨rfl, hB⟩
set_option linter.unusedSimpArgs false in
set_option maxRecDepth 100000 in
set_option maxHeartbeats 16000000 in
theorem bounds_ok (n : Int) (a : Option Addr) (m cap : Nat) (u v : Int) (L : List Ch.Lk) (hm : Hid (L.length = m)) (hsm : Hid ((decide (m ≤ 310) && decide (n ≤ 70)) = true)) (k : Nat) (hE : Ch.EN n L k) (ho : Ch.opn n L [u, v] k = 0) (hf : ¬ Ch.tb n L k u.toNat v.toNat = 1152921504606846976) (w : World) (hL : Hid (LksAt w a L)) :
    Calls Try.prog 4 #[sysV n a m cap, .int .i64 u, .int .i64 v] w (LawPost w) := by
  have HSm := Lib.hid fun (W : World) => small_any n a m cap true hsm W
  have HSa := Lib.hid fun (W : World) => sanity_any W
  have HBo := Lib.hid fun (W : World) (h : SB w n a m cap L W) => bound_any n a cap L u v k hE.en W h.l
  have HRe := Lib.hid fun (W : World) (h : SB w n a m cap L W) => reach_any n a cap L u v k hE.en hE.cons W h.l
  have HAs := Lib.hid fun (W : World) (h : SB w n a m cap L W) => asked_any n a m cap L hm u v k hE W (Lib.hid h.l)
  obtain ⟨hck, hu, hv, _⟩ := Ch.opn_at hE ho
  have ho0 : Ch.opn n L [] k = 0 := by rw [Ch.opn_nil hck, if_pos (Ch.opn_ok ho).2.2]
  have hyes := hE.cons hck (Ch.opn_ok ho).2.2
  obtain ⟨n1, n2, n3, hok⟩ := Ch.check_ok hck
  have hft : ∀ x y, x < n.toNat → y < n.toNat → Ch.fyT n.toNat L x y = Ch.tb n L k x y := fun x y hx hy => Ch.fyT_tb hE ho0 hx hy
  have HRt := Lib.hid fun (W : World) (h : SB w n a m cap L W) => rtight_any n a m cap L hm hck W (Lib.hid h.l)
  have hf' : ¬ (Ch.bt n.toNat L [] k v.toNat).getD u.toNat 0 = Ch.free := hf
  have hbo : Ch.bound n L k u v = (Ch.tb n L k u.toNat v.toNat, 0) := by unfold Ch.bound; rw [if_neg (fun h => h ho), if_neg hf']; rfl
  have hbe : (Ch.bound n L k u v).2 = 0 := by rw [hbo]
  obtain ⟨cl, hc1, hc2, hc3, hc4⟩ := Ch.sharp_own hE hbe
  obtain ⟨Y, hY, hYf, hYd⟩ := Ch.sharp_reach hE hbe
  obtain ⟨_, hYl, hYr, _⟩ := Ch.fits_sol hYf
  have hYn : Y.length = n.toNat := by omega
  have hsol := rsolves_of_fits hYf
  have HCh := Lib.hid fun (W : World) (h : SB w n a m cap L W) => chain_any n a cap L u v k hE.en cl 0 hc1 W h.l
  have HRc := Lib.hid fun (W : World) (h : SB w n a m cap L W) (ob dc : Nat) (R2 : Nat → Nat) (hU : TB2 n.toNat ob R2 (Ch.tb n L k) W) => rchain_any n a m cap L hm k hE u v cl hc1 ob dc R2 W (Lib.hid h.l) (Lib.hid hU)
  have HSo := Lib.hid fun (W : World) (h : SB w n a m cap L W) (x : Option Addr) (hx : IntsAt W x Y) => rsolves_any n n1 a cap L n3 hok x n.toNat Y hYr W h.l hx
  have HSi := Lib.hid fun (W : World) (x y : Option Addr) (c1 c2 : Nat) (hx : IntsAt W x (Ch.ints cl)) (hy : IntsAt W y (Ch.ints cl)) => sameInts_any x y c1 c2 (Ch.ints cl) (Ch.ints cl) (by rw [Ch.ints_len]; omega) W hx hy
  rw [decide_eq_true rfl, Ch.ints_len] at HSi
  rw [hsol, hYn, hm.out] at HSo
  rw [hbo] at HBo hYd
  rw [hY] at HRe
  rw [ho] at HAs
  rw [hm.out] at HBo HCh HRe
  obtain ⟨N, rfl⟩ : ∃ N : Nat, n = (N : Int) := ⟨n.toNat, by omega⟩
  obtain ⟨i, rfl⟩ : ∃ i : Nat, u = (i : Int) := ⟨u.toNat, by omega⟩
  obtain ⟨j, rfl⟩ : ∃ j : Nat, v = (j : Int) := ⟨v.toNat, by omega⟩
  simp only [Int.toNat_natCast] at *
  have hui : i < N := by omega
  have hvj : j < N := by omega
  have hui2 : (i : Int) < (N : Int) := by omega
  have hvj2 : (j : Int) < (N : Int) := by omega
  have hui0 : (0 : Int) ≤ (i : Int) := by omega
  have hvj0 : (0 : Int) ≤ (j : Int) := by omega
  have yri := hYr i (by omega)
  have yrj := hYr j (by omega)
  obtain ⟨yi, hyi⟩ : ∃ y, Y.getD i 0 = y := ⟨_, rfl⟩
  obtain ⟨yj, hyj⟩ : ∃ y, Y.getD j 0 = y := ⟨_, rfl⟩
  rw [hyi, hyj] at hYd
  rw [hyi] at yri
  rw [hyj] at yrj
  obtain ⟨yr1, yr2⟩ := yri
  obtain ⟨yr3, yr4⟩ := yrj
  obtain ⟨B, hB9⟩ : ∃ B, Ch.tb N L k i j = B := ⟨_, rfl⟩
  rw [hB9] at hYd hf HBo
  have hwy : IntKind.i64.wrap (yj - yi) = yj - yi := wrap_ok (by omega) (by omega)
  have hwy2 : IntKind.i64.wrap (yj - yi) = B := by rw [hwy]; exact hYd
  have hd0 : (yj - yi == B) = true := by rw [hYd]; simp
  have hd1 : (B == B) = true := by simp
  have hd2 : (B == 1152921504606846976) = false := by rw [beq_eq_false_iff_ne]; exact hf
  obtain ⟨ln, hln⟩ : ∃ ln, cl.length = ln := ⟨_, rfl⟩
  rw [hln] at HSi
  obtain ⟨D, hD⟩ : ∃ D, Ch.tb N L k = D := ⟨_, rfl⟩
  rw [hD] at hft hB9 HRc
  replace hft := Lib.hid hft
  replace hyes := Lib.hid hyes
  replace hyi := Lib.hid hyi
  replace hyj := Lib.hid hyj
  replace hYn := Lib.hid hYn
  replace hB9 := Lib.hid hB9
  replace hln := Lib.hid hln
  unfold sysV at *
  clear hE hbo hbe hc1 hc2 hc3 hc4 hY hYf hYl hYr hsol ho ho0 hck hok hD hYd hf hf'
  go_enter Try.func4, Try.ntmps4
  go_wp2_with fail
  refine (HSm.out _).mono ?_
  rintro e w1 ⟨rfl, hb⟩
  have hB1 := bstep1 (Below.refl _ _) hb
  have hJ1 := Lib.hid (SB.mk (w := w) (n := (N : Int)) (a := a) (m := m) (cap := cap) (W := w1) (kept1 (by simp [go_sem]) hb) (kept1 (by simp [go_sem]) hb) (hL.out.below hB1) hB1)
  clear hb hB1 HSm hsm hL
  have k0 := hJ1.out.c0
  have k1 := hJ1.out.c1
  go_wp2_with fail
  refine (HBo.out _ hJ1.out).mono ?_
  rintro e w2 ⟨rfl, hb⟩
  have hJ2 := Lib.hid (hJ1.out.below hb)
  clear hb k0 k1 hJ1 HBo
  have k0 := hJ2.out.c0
  have k1 := hJ2.out.c1
  go_wp2_with fail
  refine (HCh.out _ hJ2.out).mono ?_
  rintro e w3 ⟨cv, rfl, hown, hb⟩
  obtain ⟨p3, c3, rfl, hIc, _⟩ := ints_of_own hown
  rw [hln.out]
  have hJ3 := Lib.hid (hJ2.out.below hb)
  have hC3 := Lib.hid hIc
  clear hb k0 k1 hJ2 HCh hown hIc
  have k0 := hJ3.out.c0
  have k1 := hJ3.out.c1
  go_wp2_with fail
  refine (HRe.out _ hJ3.out).mono ?_
  rintro e w4 ⟨hb, h⟩
  obtain ⟨_, xb, f, _, rfl, hr1, hf1⟩ := h.resolve_left (fun h => h.1 rfl)
  have hJ4 := Lib.hid (hJ3.out.below hb)
  have hC4 := Lib.hid (hC3.out.below hb)
  have hY4 : Hid (IntsAt w4 (some ⟨xb, 0, none⟩) Y) := Lib.hid (ints_of_row hr1 hf1 hYn.out)
  clear hb k0 k1 hJ3 hC3 HRe h hr1 hf1
  have k0 := hJ4.out.c0
  have k1 := hJ4.out.c1
  go_wp2_with fail
  refine (HAs.out _ hJ4.out).mono ?_
  rintro e w5 ⟨rfl, hb⟩
  have hJ5 := Lib.hid (hJ4.out.below hb)
  have hC5 := Lib.hid (hC4.out.below hb)
  have hY5 := Lib.hid (hY4.out.below hb)
  clear hb k0 k1 hJ4 hC4 hY4 HAs
  have k0 := hJ5.out.c0
  have k1 := hJ5.out.c1
  go_wp2_with fail
  refine (HRt.out _ hJ5.out).mono ?_
  rintro e w6 ⟨hb, h⟩
  obtain ⟨_, ob, dc, R2, rfl, ht⟩ := h.resolve_left (fun h => h.1 hyes.out)
  have hJ6 := Lib.hid (hJ5.out.below hb)
  have hC6 := Lib.hid (hC5.out.below hb)
  have hY6 := Lib.hid (hY5.out.below hb)
  have hU6 := Lib.hid (ht.congr (fun x y hx hy => hft.out x y hx hy))
  clear hb k0 k1 hJ5 hC5 hY5 HRt h ht hyes hft
  have d0 := hU6.out.o i hui
  have d1 := hU6.out.get hui hvj
  rw [hB9.out] at d1
  obtain ⟨ri, hri⟩ : ∃ z, R2 i = z := ⟨_, rfl⟩
  rw [hri] at d0 d1
  obtain ⟨x1, hx1, e0⟩ := hY6.out i (by have := hYn.out; omega)
  obtain rfl := Option.some.inj hx1
  obtain ⟨x2, hx2, e1⟩ := hY6.out j (by have := hYn.out; omega)
  obtain rfl := Option.some.inj hx2
  rw [hyi.out, show (⟨xb, 0, none⟩ : Addr).add i = ⟨xb, i, none⟩ by unfold Addr.add; split <;> simp_all] at e0
  rw [hyj.out, show (⟨xb, 0, none⟩ : Addr).add j = ⟨xb, j, none⟩ by unfold Addr.add; split <;> simp_all] at e1
  have k0 := hJ6.out.c0
  have k1 := hJ6.out.c1
  have hBQ : BQ w N a m cap L ob R2 D p3 cl xb Y w6.drew := ⟨hJ6.out.below (Below.refl _ _).drew, hU6.out.below (Below.refl _ _).drew, hC6.out.below (Below.refl _ _).drew, hY6.out.below (Below.refl _ _).drew⟩
  have S1 : w6.drew.cell? ⟨w.heap.size, 0, none⟩ = some (.int .i64 (N : Int)) ∧ w6.drew.cell? ⟨w.heap.size, 1, none⟩ = some (.slice a m cap) ∧ w6.drew.cell? ⟨ob, i, none⟩ = some (.slice (some ⟨ri, 0, none⟩) N N) ∧ w6.drew.cell? ⟨ri, j, none⟩ = some (.int .i64 B) ∧ w6.drew.cell? ⟨xb, i, none⟩ = some (.int .i64 yi) ∧ w6.drew.cell? ⟨xb, j, none⟩ = some (.int .i64 yj) ∧ BQ w N a m cap L ob R2 D p3 cl xb Y w6.drew := ⟨k0, k1, d0, d1, e0, e1, hBQ⟩
  clear hx1 hx2 hri hBQ
  go_upto_region 16 with fail
  clear k0 k1 d0 d1 e0 e1 hJ6 hU6 hC6 hY6
  refine wp_region_held_drew (S := fun w' => w'.cell? ⟨w.heap.size, 0, none⟩ = some (.int .i64 (N : Int)) ∧ w'.cell? ⟨w.heap.size, 1, none⟩ = some (.slice a m cap) ∧ w'.cell? ⟨ob, i, none⟩ = some (.slice (some ⟨ri, 0, none⟩) N N) ∧ w'.cell? ⟨ri, j, none⟩ = some (.int .i64 B) ∧ w'.cell? ⟨xb, i, none⟩ = some (.int .i64 yi) ∧ w'.cell? ⟨xb, j, none⟩ = some (.int .i64 yj) ∧ BQ w N a m cap L ob R2 D p3 cl xb Y w') (by kernel_rfl) S1 (fun hHeld1 => ?_)
  refine wpAnyH_ready (rs := [0]) (by kernel_rfl) (by simp) ?_
  refine AllReadyH.cons rfl (fun K hK => ?_) ?_
  rotate_left 1
  · exact AllReadyH.nil
  rw [if_pos (by kernel_rfl)]
  go_simp
  refine (HSa.out _).mono ?_
  rintro e wp2 ⟨rfl, hbp⟩
  have S2 := keepBQ (Z := fun W => BQ w N a m cap L ob R2 D p3 cl xb Y W) (fun h hb => h.below hb) hHeld1 hbp
  refine hK.out _ _ S2 (fun hHeld2 => ?_)
  clear hK K
  try simp only [Act.put, List.getElem_toArray, List.getElem_cons_succ, List.getElem_cons_zero, List.setIfInBounds_toArray, List.set_cons_zero, List.set_cons_succ]
  refine wpAnyH_take (i := 1) (v := ?_) rfl (by kernel_rfl) (by kernel_rfl) (by kernel_rfl) (fun _ _ _ h => h) (Or.inl ⟨by kernel_rfl, ?_⟩) (by assumption) ?_
  rotate_left 1
  · (intro w hSw; (try dsimp only at hSw); go_simp; all_goals with_reducible rfl)
  try simp only [Act.put, List.getElem_toArray, List.getElem_cons_succ, List.getElem_cons_zero, List.setIfInBounds_toArray, List.set_cons_zero, List.set_cons_succ]
  refine wpAnyH_take (i := 2) (v := ?_) rfl (by kernel_rfl) (by kernel_rfl) (by kernel_rfl) (fun _ _ _ h => h) (Or.inl ⟨by kernel_rfl, ?_⟩) (by assumption) ?_
  rotate_left 1
  · (intro w hSw; (try dsimp only at hSw); go_simp; all_goals with_reducible rfl)
  try simp only [Act.put, List.getElem_toArray, List.getElem_cons_succ, List.getElem_cons_zero, List.setIfInBounds_toArray, List.set_cons_zero, List.set_cons_succ]
  refine wpAnyH_take (i := 3) (v := ?_) rfl (by kernel_rfl) (by kernel_rfl) (by kernel_rfl) (fun _ _ _ h => h) (Or.inl ⟨by kernel_rfl, ?_⟩) (by assumption) ?_
  rotate_left 1
  · (intro w hSw; (try dsimp only at hSw); go_simp; all_goals with_reducible rfl)
  try simp only [Act.put, List.getElem_toArray, List.getElem_cons_succ, List.getElem_cons_zero, List.setIfInBounds_toArray, List.set_cons_zero, List.set_cons_succ]
  refine wpAnyH_take (i := 4) (v := ?_) rfl (by kernel_rfl) (by kernel_rfl) (by kernel_rfl) (fun _ _ _ h => h) (Or.inl ⟨by kernel_rfl, ?_⟩) (by assumption) ?_
  rotate_left 1
  · (intro w hSw; (try dsimp only at hSw); go_simp; all_goals with_reducible rfl)
  try simp only [Act.put, List.getElem_toArray, List.getElem_cons_succ, List.getElem_cons_zero, List.setIfInBounds_toArray, List.set_cons_zero, List.set_cons_succ]
  refine wpAnyH_take (i := 5) (v := ?_) rfl (by kernel_rfl) (by kernel_rfl) (by kernel_rfl) (fun _ _ _ h => h) (Or.inl ⟨by kernel_rfl, ?_⟩) (by assumption) ?_
  rotate_left 1
  · (intro w hSw; (try dsimp only at hSw); go_simp; all_goals with_reducible rfl)
  try simp only [Act.put, List.getElem_toArray, List.getElem_cons_succ, List.getElem_cons_zero, List.setIfInBounds_toArray, List.set_cons_zero, List.set_cons_succ]
  refine wpAnyH_take (i := 6) (v := ?_) rfl (by kernel_rfl) (by kernel_rfl) (by kernel_rfl) (fun _ _ _ h => h) (Or.inl ⟨by kernel_rfl, ?_⟩) (by assumption) ?_
  rotate_left 1
  · (intro w hSw; (try dsimp only at hSw); go_simp; all_goals with_reducible rfl)
  try simp only [Act.put, List.getElem_toArray, List.getElem_cons_succ, List.getElem_cons_zero, List.setIfInBounds_toArray, List.set_cons_zero, List.set_cons_succ]
  refine wpAnyH_take (i := 7) (v := ?_) rfl (by kernel_rfl) (by kernel_rfl) (by kernel_rfl) (fun _ _ _ h => h) (Or.inl ⟨by kernel_rfl, ?_⟩) (by assumption) ?_
  rotate_left 1
  · (intro w hSw; (try dsimp only at hSw); go_simp; all_goals with_reducible rfl)
  try simp only [Act.put, List.getElem_toArray, List.getElem_cons_succ, List.getElem_cons_zero, List.setIfInBounds_toArray, List.set_cons_zero, List.set_cons_succ]
  refine wpAnyH_take (i := 8) (v := ?_) rfl (by kernel_rfl) (by kernel_rfl) (by kernel_rfl) (fun _ _ _ h => h) (Or.inl ⟨by kernel_rfl, ?_⟩) (by assumption) ?_
  rotate_left 1
  · (intro w hSw; (try dsimp only at hSw); go_simp; all_goals with_reducible rfl)
  try simp only [Act.put, List.getElem_toArray, List.getElem_cons_succ, List.getElem_cons_zero, List.setIfInBounds_toArray, List.set_cons_zero, List.set_cons_succ]
  refine wpAnyH_take (i := 9) (v := ?_) rfl (by kernel_rfl) (by kernel_rfl) (by kernel_rfl) (fun _ _ _ h => h) (Or.inl ⟨by kernel_rfl, ?_⟩) (by assumption) ?_
  rotate_left 1
  · (intro w hSw; (try dsimp only at hSw); go_simp; all_goals with_reducible rfl)
  try simp only [Act.put, List.getElem_toArray, List.getElem_cons_succ, List.getElem_cons_zero, List.setIfInBounds_toArray, List.set_cons_zero, List.set_cons_succ]
  refine wpAnyH_take (i := 10) (v := ?_) rfl (by kernel_rfl) (by kernel_rfl) (by kernel_rfl) (fun _ _ _ h => h) (Or.inl ⟨by kernel_rfl, ?_⟩) (by assumption) ?_
  rotate_left 1
  · (intro w hSw; (try dsimp only at hSw); go_simp; all_goals with_reducible rfl)
  try simp only [Act.put, List.getElem_toArray, List.getElem_cons_succ, List.getElem_cons_zero, List.setIfInBounds_toArray, List.set_cons_zero, List.set_cons_succ]
  refine wpAnyH_take (i := 11) (v := ?_) rfl (by kernel_rfl) (by kernel_rfl) (by kernel_rfl) (fun _ _ _ h => h) (Or.inl ⟨by kernel_rfl, ?_⟩) (by assumption) ?_
  rotate_left 1
  · (intro w hSw; (try dsimp only at hSw); go_simp; all_goals with_reducible rfl)
  try simp only [Act.put, List.getElem_toArray, List.getElem_cons_succ, List.getElem_cons_zero, List.setIfInBounds_toArray, List.set_cons_zero, List.set_cons_succ]
  refine wpAnyH_take (i := 12) (v := ?_) rfl (by kernel_rfl) (by kernel_rfl) (by kernel_rfl) (fun _ _ _ h => h) (Or.inl ⟨by kernel_rfl, ?_⟩) (by assumption) ?_
  rotate_left 1
  · (intro w hSw; (try dsimp only at hSw); go_simp; all_goals with_reducible rfl)
  try simp only [Act.put, List.getElem_toArray, List.getElem_cons_succ, List.getElem_cons_zero, List.setIfInBounds_toArray, List.set_cons_zero, List.set_cons_succ]
  refine wpAnyH_take (i := 13) (v := ?_) rfl (by kernel_rfl) (by kernel_rfl) (by kernel_rfl) (fun _ _ _ h => h) (Or.inl ⟨by kernel_rfl, ?_⟩) (by assumption) ?_
  rotate_left 1
  · (intro w hSw; (try dsimp only at hSw); go_simp; all_goals with_reducible rfl)
  try simp only [Act.put, List.getElem_toArray, List.getElem_cons_succ, List.getElem_cons_zero, List.setIfInBounds_toArray, List.set_cons_zero, List.set_cons_succ]
  refine wpAnyH_take (i := 14) (v := ?_) rfl (by kernel_rfl) (by kernel_rfl) (by kernel_rfl) (fun _ _ _ h => h) (Or.inl ⟨by kernel_rfl, ?_⟩) (by assumption) ?_
  rotate_left 1
  · (intro w hSw; (try dsimp only at hSw); go_simp; all_goals with_reducible rfl)
  try simp only [Act.put, List.getElem_toArray, List.getElem_cons_succ, List.getElem_cons_zero, List.setIfInBounds_toArray, List.set_cons_zero, List.set_cons_succ]
  refine wpAnyH_take (i := 15) (v := ?_) rfl (by kernel_rfl) (by kernel_rfl) (by kernel_rfl) (fun _ _ _ h => h) (Or.inl ⟨by kernel_rfl, ?_⟩) (by assumption) ?_
  rotate_left 1
  · (intro w hSw; (try dsimp only at hSw); go_simp; all_goals with_reducible rfl)
  try simp only [Act.put, List.getElem_toArray, List.getElem_cons_succ, List.getElem_cons_zero, List.setIfInBounds_toArray, List.set_cons_zero, List.set_cons_succ]
  refine wpAnyH_take (i := 16) (v := ?_) rfl (by kernel_rfl) (by kernel_rfl) (by kernel_rfl) (fun _ _ _ h => h) (Or.inl ⟨by kernel_rfl, ?_⟩) (by assumption) ?_
  rotate_left 1
  · (intro w hSw; (try dsimp only at hSw); go_simp; all_goals with_reducible rfl)
  try simp only [Act.put, List.getElem_toArray, List.getElem_cons_succ, List.getElem_cons_zero, List.setIfInBounds_toArray, List.set_cons_zero, List.set_cons_succ]
  refine wpAnyH_take (i := 17) (v := ?_) rfl (by kernel_rfl) (by kernel_rfl) (by kernel_rfl) (fun _ _ _ h => h) (Or.inl ⟨by kernel_rfl, ?_⟩) (by assumption) ?_
  rotate_left 1
  · (intro w hSw; (try dsimp only at hSw); go_simp; all_goals with_reducible rfl)
  try simp only [Act.put, List.getElem_toArray, List.getElem_cons_succ, List.getElem_cons_zero, List.setIfInBounds_toArray, List.set_cons_zero, List.set_cons_succ]
  refine wpAnyH_ready (rs := [18]) (by kernel_rfl) (by simp) ?_
  refine AllReadyH.cons rfl (fun K hK => ?_) ?_
  rotate_left 1
  · exact AllReadyH.nil
  rw [if_pos (by kernel_rfl)]
  go_simp
  refine (HRc.out _ hHeld2.2.2.2.2.2.2.j ob dc R2 hHeld2.2.2.2.2.2.2.t).mono ?_
  rintro e wp3 ⟨v3, rfl, hown, hbp⟩
  obtain ⟨p9, c9, rfl, hI9, _⟩ := ints_of_own hown
  rw [hln.out]
  have S3 := keepBQ (Z := fun W => BQ w N a m cap L ob R2 D p3 cl xb Y W) (fun h hb => h.below hb) hHeld2 hbp
  refine hK.out _ _ S3 (fun hHeld3 => ?_)
  clear hK K
  try simp only [Act.put, List.getElem_toArray, List.getElem_cons_succ, List.getElem_cons_zero, List.setIfInBounds_toArray, List.set_cons_zero, List.set_cons_succ]
  refine wpAnyH_ready (rs := [19]) (by kernel_rfl) (by simp) ?_
  refine AllReadyH.cons rfl (fun K hK => ?_) ?_
  rotate_left 1
  · exact AllReadyH.nil
  rw [if_pos (by kernel_rfl)]
  go_simp
  refine (HSi.out _ p3 p9 c3 c9 hHeld3.2.2.2.2.2.2.c hI9).mono ?_
  rintro e wp4 ⟨rfl, hbp⟩
  have S4 := keepBQ (Z := fun W => BQ w N a m cap L ob R2 D p3 cl xb Y W) (fun h hb => h.below hb) hHeld3 hbp
  refine hK.out _ _ S4 (fun hHeld4 => ?_)
  clear hK K
  try simp only [Act.put, List.getElem_toArray, List.getElem_cons_succ, List.getElem_cons_zero, List.setIfInBounds_toArray, List.set_cons_zero, List.set_cons_succ]
  refine wpAnyH_take (i := 20) (v := ?_) rfl (by kernel_rfl) (by kernel_rfl) (by kernel_rfl) (fun _ _ _ h => h) (Or.inl ⟨by kernel_rfl, ?_⟩) (by assumption) ?_
  rotate_left 1
  · (intro w hSw; (try dsimp only at hSw); go_simp; all_goals with_reducible rfl)
  try simp only [Act.put, List.getElem_toArray, List.getElem_cons_succ, List.getElem_cons_zero, List.setIfInBounds_toArray, List.set_cons_zero, List.set_cons_succ]
  refine wpAnyH_take (i := 21) (v := ?_) rfl (by kernel_rfl) (by kernel_rfl) (by kernel_rfl) (fun _ _ _ h => h) (Or.inl ⟨by kernel_rfl, ?_⟩) (by assumption) ?_
  rotate_left 1
  · (intro w hSw; (try dsimp only at hSw); go_simp; all_goals with_reducible rfl)
  try simp only [Act.put, List.getElem_toArray, List.getElem_cons_succ, List.getElem_cons_zero, List.setIfInBounds_toArray, List.set_cons_zero, List.set_cons_succ]
  refine wpAnyH_take (i := 22) (v := ?_) rfl (by kernel_rfl) (by kernel_rfl) (by kernel_rfl) (fun _ _ _ h => h) (Or.inl ⟨by kernel_rfl, ?_⟩) (by assumption) ?_
  rotate_left 1
  · (intro w hSw; (try dsimp only at hSw); go_simp; all_goals with_reducible rfl)
  try simp only [Act.put, List.getElem_toArray, List.getElem_cons_succ, List.getElem_cons_zero, List.setIfInBounds_toArray, List.set_cons_zero, List.set_cons_succ]
  refine wpAnyH_take (i := 23) (v := ?_) rfl (by kernel_rfl) (by kernel_rfl) (by kernel_rfl) (fun _ _ _ h => h) (Or.inl ⟨by kernel_rfl, ?_⟩) (by assumption) ?_
  rotate_left 1
  · (intro w hSw; (try dsimp only at hSw); go_simp; all_goals with_reducible rfl)
  try simp only [Act.put, List.getElem_toArray, List.getElem_cons_succ, List.getElem_cons_zero, List.setIfInBounds_toArray, List.set_cons_zero, List.set_cons_succ]
  refine wpAnyH_ready (rs := [24]) (by kernel_rfl) (by simp) ?_
  refine AllReadyH.cons rfl (fun K hK => ?_) ?_
  rotate_left 1
  · exact AllReadyH.nil
  rw [if_pos (by kernel_rfl)]
  go_simp
  refine (HSo.out _ hHeld4.2.2.2.2.2.2.j _ hHeld4.2.2.2.2.2.2.y).mono ?_
  rintro e wp5 ⟨rfl, hbp⟩
  have S5 := keepBQ (Z := fun W => BQ w N a m cap L ob R2 D p3 cl xb Y W) (fun h hb => h.below hb) hHeld4 hbp
  refine hK.out _ _ S5 (fun hHeld5 => ?_)
  clear hK K
  try simp only [Act.put, List.getElem_toArray, List.getElem_cons_succ, List.getElem_cons_zero, List.setIfInBounds_toArray, List.set_cons_zero, List.set_cons_succ]
  refine wpAnyH_take (i := 25) (v := ?_) rfl (by kernel_rfl) (by kernel_rfl) (by kernel_rfl) (fun _ _ _ h => h) (Or.inl ⟨by kernel_rfl, ?_⟩) (by assumption) ?_
  rotate_left 1
  · (intro w hSw; (try dsimp only at hSw); go_simp; all_goals with_reducible rfl)
  try simp only [Act.put, List.getElem_toArray, List.getElem_cons_succ, List.getElem_cons_zero, List.setIfInBounds_toArray, List.set_cons_zero, List.set_cons_succ]
  refine wpAnyH_take (i := 26) (v := ?_) rfl (by kernel_rfl) (by kernel_rfl) (by kernel_rfl) (fun _ _ _ h => h) (Or.inl ⟨by kernel_rfl, ?_⟩) (by assumption) ?_
  rotate_left 1
  · (intro w hSw; (try dsimp only at hSw); go_simp; all_goals with_reducible rfl)
  try simp only [Act.put, List.getElem_toArray, List.getElem_cons_succ, List.getElem_cons_zero, List.setIfInBounds_toArray, List.set_cons_zero, List.set_cons_succ]
  refine wpAnyH_take (i := 27) (v := ?_) rfl (by kernel_rfl) (by kernel_rfl) (by kernel_rfl) (fun _ _ _ h => h) (Or.inl ⟨by kernel_rfl, ?_⟩) (by assumption) ?_
  rotate_left 1
  · (intro w hSw; (try dsimp only at hSw); go_simp; all_goals with_reducible rfl)
  try simp only [Act.put, List.getElem_toArray, List.getElem_cons_succ, List.getElem_cons_zero, List.setIfInBounds_toArray, List.set_cons_zero, List.set_cons_succ]
  refine wpAnyH_take (i := 28) (v := ?_) rfl (by kernel_rfl) (by kernel_rfl) (by kernel_rfl) (fun _ _ _ h => h) (Or.inl ⟨by kernel_rfl, ?_⟩) (by assumption) ?_
  rotate_left 1
  · (intro w hSw; (try dsimp only at hSw); go_simp; all_goals with_reducible rfl)
  try simp only [Act.put, List.getElem_toArray, List.getElem_cons_succ, List.getElem_cons_zero, List.setIfInBounds_toArray, List.set_cons_zero, List.set_cons_succ]
  refine wpAnyH_take (i := 29) (v := ?_) rfl (by kernel_rfl) (by kernel_rfl) (by kernel_rfl) (fun _ _ _ h => h) (Or.inl ⟨by kernel_rfl, ?_⟩) (by assumption) ?_
  rotate_left 1
  · (intro w hSw; (try dsimp only at hSw); go_simp; all_goals with_reducible rfl)
  try simp only [Act.put, List.getElem_toArray, List.getElem_cons_succ, List.getElem_cons_zero, List.setIfInBounds_toArray, List.set_cons_zero, List.set_cons_succ]
  refine wpAnyH_take (i := 30) (v := ?_) rfl (by kernel_rfl) (by kernel_rfl) (by kernel_rfl) (fun _ _ _ h => h) (Or.inl ⟨by kernel_rfl, ?_⟩) (by assumption) ?_
  rotate_left 1
  · (intro w hSw; (try dsimp only at hSw); go_simp; all_goals with_reducible rfl)
  try simp only [Act.put, List.getElem_toArray, List.getElem_cons_succ, List.getElem_cons_zero, List.setIfInBounds_toArray, List.set_cons_zero, List.set_cons_succ]
  refine wpAnyH_take (i := 31) (v := ?_) rfl (by kernel_rfl) (by kernel_rfl) (by kernel_rfl) (fun _ _ _ h => h) (Or.inl ⟨by kernel_rfl, ?_⟩) (by assumption) ?_
  rotate_left 1
  · (intro w hSw; (try dsimp only at hSw); go_simp; all_goals with_reducible rfl)
  try simp only [Act.put, List.getElem_toArray, List.getElem_cons_succ, List.getElem_cons_zero, List.setIfInBounds_toArray, List.set_cons_zero, List.set_cons_succ]
  refine wpAnyH_take (i := 32) (v := ?_) rfl (by kernel_rfl) (by kernel_rfl) (by kernel_rfl) (fun _ _ _ h => h) (Or.inl ⟨by kernel_rfl, ?_⟩) (by assumption) ?_
  rotate_left 1
  · (intro w hSw; (try dsimp only at hSw); go_simp; all_goals with_reducible rfl)
  try simp only [Act.put, List.getElem_toArray, List.getElem_cons_succ, List.getElem_cons_zero, List.setIfInBounds_toArray, List.set_cons_zero, List.set_cons_succ]
  refine wpAnyH_take (i := 33) (v := ?_) rfl (by kernel_rfl) (by kernel_rfl) (by kernel_rfl) (fun _ _ _ h => h) (Or.inl ⟨by kernel_rfl, ?_⟩) (by assumption) ?_
  rotate_left 1
  · (intro w hSw; (try dsimp only at hSw); go_simp; all_goals with_reducible rfl)
  try simp only [Act.put, List.getElem_toArray, List.getElem_cons_succ, List.getElem_cons_zero, List.setIfInBounds_toArray, List.set_cons_zero, List.set_cons_succ]
  refine wpAnyH_take (i := 34) (v := ?_) rfl (by kernel_rfl) (by kernel_rfl) (by kernel_rfl) (fun _ _ _ h => h) (Or.inl ⟨by kernel_rfl, ?_⟩) (by assumption) ?_
  rotate_left 1
  · (intro w hSw; (try dsimp only at hSw); go_simp; all_goals with_reducible rfl)
  try simp only [Act.put, List.getElem_toArray, List.getElem_cons_succ, List.getElem_cons_zero, List.setIfInBounds_toArray, List.set_cons_zero, List.set_cons_succ]
  refine wpAnyH_take (i := 35) (v := ?_) rfl (by kernel_rfl) (by kernel_rfl) (by kernel_rfl) (fun _ _ _ h => h) (Or.inl ⟨by kernel_rfl, ?_⟩) (by assumption) ?_
  rotate_left 1
  · (intro w hSw; (try dsimp only at hSw); go_simp; all_goals with_reducible rfl)
  try simp only [Act.put, List.getElem_toArray, List.getElem_cons_succ, List.getElem_cons_zero, List.setIfInBounds_toArray, List.set_cons_zero, List.set_cons_succ]
  refine wpAnyH_take (i := 36) (v := ?_) rfl (by kernel_rfl) (by kernel_rfl) (by kernel_rfl) (fun _ _ _ h => h) (Or.inl ⟨by kernel_rfl, ?_⟩) (by assumption) ?_
  rotate_left 1
  · (intro w hSw; (try dsimp only at hSw); go_simp; all_goals with_reducible rfl)
  try simp only [Act.put, List.getElem_toArray, List.getElem_cons_succ, List.getElem_cons_zero, List.setIfInBounds_toArray, List.set_cons_zero, List.set_cons_succ]
  refine wpAnyH_take (i := 37) (v := ?_) rfl (by kernel_rfl) (by kernel_rfl) (by kernel_rfl) (fun _ _ _ h => h) (Or.inl ⟨by kernel_rfl, ?_⟩) (by assumption) ?_
  rotate_left 1
  · (intro w hSw; (try dsimp only at hSw); go_simp; all_goals with_reducible rfl)
  try simp only [Act.put, List.getElem_toArray, List.getElem_cons_succ, List.getElem_cons_zero, List.setIfInBounds_toArray, List.set_cons_zero, List.set_cons_succ]
  refine wpAnyH_take (i := 38) (v := ?_) rfl (by kernel_rfl) (by kernel_rfl) (by kernel_rfl) (fun _ _ _ h => h) (Or.inl ⟨by kernel_rfl, ?_⟩) (by assumption) ?_
  rotate_left 1
  · (intro w hSw; (try dsimp only at hSw); go_simp; all_goals with_reducible rfl)
  try simp only [Act.put, List.getElem_toArray, List.getElem_cons_succ, List.getElem_cons_zero, List.setIfInBounds_toArray, List.set_cons_zero, List.set_cons_succ]
  refine wpAnyH_take (i := 39) (v := ?_) rfl (by kernel_rfl) (by kernel_rfl) (by kernel_rfl) (fun _ _ _ h => h) (Or.inl ⟨by kernel_rfl, ?_⟩) (by assumption) ?_
  rotate_left 1
  · (intro w hSw; (try dsimp only at hSw); go_simp; all_goals with_reducible rfl)
  try simp only [Act.put, List.getElem_toArray, List.getElem_cons_succ, List.getElem_cons_zero, List.setIfInBounds_toArray, List.set_cons_zero, List.set_cons_succ]
  refine wpAnyH_done (by kernel_rfl) ?_ _
  have hB := hHeld5.2.2.2.2.2.2.j.b
  clear hHeld1 hHeld2 hHeld3 hHeld4 hHeld5 S1 S2 S3 S4 S5 hI9 hown
  try show wpList _ _ _ _ _ _
  go_wp2
  go_ret
  exact ⟨rfl, hB⟩
/-- the law -/
theorem chainBounds_true (w : World) (n : Int) (a : Option Addr) (m cap : Nat) (_ : I64 n) (_ : a = none → cap = 0) (_ : m ≤ maxLen) (L : List Ch.Lk) (hm : L.length = m) (hL : LksAt w a L) (_ : ∀ i, i < m → I64l (L.getD i Ch.noLk)) (u : Int) (_ : I64 u) (v : Int) (_ : I64 v) :
    Calls Try.prog 4 #[sysV n a m cap, .int .i64 u, .int .i64 v] w (LawPost w) := by
  obtain ⟨K, hK⟩ := Ch.en_ex n L
  have hE := hK K (Nat.le_refl _)
  cases h : (decide (m ≤ 310) && decide (n ≤ 70))
  · exact bounds_other n a m cap u v (Lib.hid h) w
  · by_cases ho : Ch.opn n L [u, v] K = 0
    · by_cases hf : Ch.tb n L K u.toNat v.toNat = 1152921504606846976
      · exact bounds_free n a m cap u v L (Lib.hid hm) (Lib.hid h) K hE ho hf w (Lib.hid hL)
      · exact bounds_ok n a m cap u v L (Lib.hid hm) (Lib.hid h) K hE ho hf w (Lib.hid hL)
    · exact bounds_bad n a m cap u v L (Lib.hid hm) (Lib.hid h) K hE ho w (Lib.hid hL)
end Go.Proofs.Ytkcchangkhklcaa
