/- Contracts of the specification: Tables. -/
import Derived.Test.YtkcchangkhklcaaZMQtYp
import Derived.Test.YtkcchangkhklcaaZFu
import Derived.Test.YtkcchangkhklcaaZWo
import Derived.Test.YtkcchangkhklcaaZ06
import Derived.Deep.AppendLies
set_option linter.unusedSimpArgs false
set_option linter.unusedVariables false
namespace Go.Proofs.Ytkcchangkhklcaa
open Go.RowKit

theorem infoTb : (Try.prog.info? 35).map (fun i => (i.zero, i.size, i.bytes)) = some (some (.slice none 0 0), 1, 24) := by kernel_rfl
/-- tables that lie in a row -/
structure TT (N K tb : Nat) (O C : Nat → Nat) (R : Nat → Nat → Nat) (F : Nat → Nat → Nat → Int) (W : World) : Prop where
  o : ∀ k, k < K → W.cell? ⟨tb, k, none⟩ = some (.slice (some ⟨O k, 0, none⟩) N (C k))
  t : ∀ k, k < K → TB2 N (O k) (R k) (F k) W
theorem TT.below {N K tb : Nat} {O C : Nat → Nat} {R : Nat → Nat → Nat} {F : Nat → Nat → Nat → Int} {W W' : World} (h : TT N K tb O C R F W) (hb : Below W.heap.size W W') : TT N K tb O C R F W' := ⟨fun k hk => kept1 (h.o k hk) hb, fun k hk => (h.t k hk).below hb⟩

theorem own_type2 {W : World} {base n size g ob : Nat} {v : Value} {xs : List Value} (h : W.ownsRow base 35 size v n xs) (hr : ∃ c, W.heap[ob]? = some (.cells c 32 (0, 0))) (hg : v.ownBlock = some g) : g ≠ ob := by
  rintro rfl
  obtain ⟨_, h2⟩ := h
  rcases h2 with ⟨hv, _⟩ | ⟨g', cap, cur, hv, _, hc, _⟩
  · rw [hv] at hg; cases hg
  · rw [hv] at hg; cases hg
    obtain ⟨c, h3⟩ := hr
    rw [hc] at h3
    simp at h3
theorem own_type3 {W : World} {base n size q N : Nat} {v : Value} {xs : List Value} {f : Nat → Value} {g : Nat} (h : W.ownsRow base 35 size v n xs) (hr : W.rowIs q 3 N f) (hg : v.ownBlock = some g) : g ≠ q := by
  rintro rfl
  obtain ⟨_, h2⟩ := h
  rcases h2 with ⟨hv, _⟩ | ⟨g', cap, cur, hv, _, hc, _⟩
  · rw [hv] at hg; cases hg
  · rw [hv] at hg; cases hg
    obtain ⟨c, h3, _⟩ := hr
    rw [hc] at h3
    simp at h3
/-- a table stays where an append grows another row -/
theorem TB2.grown {N ob : Nat} {R : Nat → Nat} {D : Nat → Nat → Int} {W W' : World} {base n size : Nat} {v : Value} {xs : List Value} (h : TB2 N ob R D W) (hown : W.ownsRow base 35 size v n xs) (hg : W.grownBy W' v.ownBlock) : TB2 N ob R D W' := by
  have hob : W'.heap[ob]? = W.heap[ob]? := by
    obtain ⟨c, hc⟩ := h.ty
    exact hg.block _ (heap_lt hc) (fun e => own_type2 hown h.ty e.symm rfl)
  refine ⟨fun u hu => (World.cell?_of_block hob).trans (h.o u hu), fun u hu => (h.r u hu).of_block (hg.block _ (h.r u hu).lt (fun e => own_type3 hown (h.r u hu) e.symm rfl)), h.i, h.ne, ?_⟩
  obtain ⟨c, hc⟩ := h.ty
  exact ⟨c, hob.trans hc⟩

/-- the world in Tables: the system in its box, the tables of the first K numbers of links -/
structure TS (w : World) (n : Nat) (a : Option Addr) (m cap : Nat) (L : List Ch.Lk) (K : Nat) (v : Value) (O C : Nat → Nat) (R : Nat → Nat → Nat) (W : World) : Prop where
  c0 : W.cell? ⟨w.heap.size, 0, none⟩ = some (.int .i64 n)
  c1 : W.cell? ⟨w.heap.size, 1, none⟩ = some (.slice a m cap)
  l : LksAt W a L
  b : Below w.heap.size w W
  own : W.ownsRow (w.heap.size + 1) 35 1 v K ((List.range K).map fun k => .slice (some ⟨O k, 0, none⟩) n (C k))
  t : ∀ k, k < K → TB2 n (O k) (R k) (Ch.tabF L k) W
theorem TS.below {w W W' : World} {n : Nat} {a : Option Addr} {m cap : Nat} {L : List Ch.Lk} {K : Nat} {v : Value} {O C : Nat → Nat} {R : Nat → Nat → Nat} (h : TS w n a m cap L K v O C R W) (hb : Below W.heap.size W W') : TS w n a m cap L K v O C R W' :=
  ⟨kept1 h.c0 hb, kept1 h.c1 hb, h.l.below hb, h.b.trans (hb.mono h.b.size), owns_but (T := fun _ => False) h.own ((But.of_below hb).mono (fun _ _ h => h)) (fun _ _ h => h), fun k hk => (h.t k hk).below hb⟩
theorem TS.ov {w W : World} {n : Nat} {a : Option Addr} {m cap : Nat} {L : List Ch.Lk} {K : Nat} {v : Value} {O C : Nat → Nat} {R : Nat → Nat → Nat} (h : TS w n a m cap L K v O C R W) (h1 : 1 ≤ K) : ∃ g cp, v = .slice (some ⟨g, 0, none⟩) K cp ∧ ∀ k, k < K → W.cell? ⟨g, k, none⟩ = some (.slice (some ⟨O k, 0, none⟩) n (C k)) := by
  rcases h.own.2 with ⟨_, h0⟩ | ⟨g, cp, cur, hv, _, hgb, _, _, _, ht⟩
  · omega
  · refine ⟨g, cp, hv, fun k hk => ?_⟩
    have hu2 : (((List.range K).map fun k => Value.slice (some ⟨O k, 0, none⟩) n (C k)))[k]? = some (.slice (some ⟨O k, 0, none⟩) n (C k)) := by
      rw [List.getElem?_map, List.getElem?_range hk]; rfl
    rw [← ht, List.getElem?_take_of_lt (by omega), Array.getElem?_toList] at hu2
    simp [World.cell?, hgb, hu2]
theorem TS.push {w W W' : World} {n : Nat} {a : Option Addr} {m cap : Nat} {L : List Ch.Lk} {K : Nat} {v v' : Value} {O C : Nat → Nat} {R : Nat → Nat → Nat} (o : Obj) {nb nc : Nat} {NR : Nat → Nat} (h : TS w n a m cap L K v O C R W) (hw : LksAt w a L) (hn : TB2 n nb NR (Ch.tabF L K) W)
    (hown : W'.ownsRow (w.heap.size + 1) 35 1 v' (K + 1) (((List.range K).map fun k => .slice (some ⟨O k, 0, none⟩) n (C k)) ++ [.slice (some ⟨nb, 0, none⟩) n nc])) (hg : (W.alloc o).grownBy W' v.ownBlock) :
    TS w n a m cap L (K + 1) v' (fun k => if k = K then nb else O k) (fun k => if k = K then nc else C k) (fun k => if k = K then NR else R k) W' := by
  have hX := h.own.alloc o
  have hfar : ∀ g, v.ownBlock = some g → w.heap.size + 1 ≤ g := fun g hg => owns_far hX hg
  have hb : Below w.heap.size w W' := below_grown (h.b.alloc h.b.size o) (owns_base hX (Nat.le_succ _)) hg
  refine ⟨cell_far hg hfar (by show w.heap.size < _; omega) (cell_alloc h.c0 o), cell_far hg hfar (by show w.heap.size < _; omega) (cell_alloc h.c1 o), hw.below hb, hb, ?_, fun k hk => ?_⟩
  · rw [List.range_succ, List.map_append]
    have e : (List.range K).map (fun k => Value.slice (some ⟨if k = K then nb else O k, 0, none⟩) n (if k = K then nc else C k)) = (List.range K).map fun k => Value.slice (some ⟨O k, 0, none⟩) n (C k) :=
      List.map_congr_left fun k hk => by
        have := List.mem_range.1 hk
        rw [if_neg (by omega), if_neg (by omega)]
    rw [e]
    simpa using hown
  · by_cases e : k = K
    · subst e
      simp only [if_pos]
      exact (hn.below (below_alloc (Below.refl _ _) o)).grown hX hg
    · simp only [if_neg e]
      exact ((h.t k (by omega)).below (below_alloc (Below.refl _ _) o)).grown hX hg
/-- the new table in Tables -/
structure TN (w1 : World) (n nb : Nat) (NR : Nat → Nat) (D : Nat → Nat → Int) (W : World) : Prop where
  t : TB2 n nb NR D W
  b : Below w1.heap.size w1 W
  lo : ∀ u, u < n → w1.heap.size ≤ NR u
theorem TN.below {w1 W W' : World} {n nb : Nat} {NR : Nat → Nat} {D : Nat → Nat → Int} (h : TN w1 n nb NR D W) (hb : Below W.heap.size W W') : TN w1 n nb NR D W' := ⟨h.t.below hb, h.b.trans (hb.mono h.b.size), h.lo⟩
theorem TN.congr {w1 W : World} {n nb : Nat} {NR : Nat → Nat} {D E : Nat → Nat → Int} (h : TN w1 n nb NR D W) (e : ∀ u v, u < n → v < n → D u v = E u v) : TN w1 n nb NR E W := ⟨h.t.congr e, h.b, h.lo⟩
theorem TN.set {w1 W : World} {n nb : Nat} {NR : Nat → Nat} {D : Nat → Nat → Int} (h : TN w1 n nb NR D W) {u v : Nat} (hu : u < n) (z : Int) : TN w1 n nb NR (fun x y => if x = u ∧ y = v then z else D x y) (W.setCell ⟨NR u, v, none⟩ (.int .i64 z)) :=
  ⟨h.t.set hu z, h.b.setCell (p := ⟨NR u, v, none⟩) (h.lo u hu) _, h.lo⟩

/-- what Tables leaves -/
def TabPost (w : World) (n K : Nat) (L : List Ch.Lk) (e : Ending) (w' : World) : Prop :=
  ∃ tb cap O C R, e = .returned (.slice (some ⟨tb, 0, none⟩) K cap) ∧ TT n K tb O C R (Ch.tabF L) w' ∧ Below w.heap.size w w'
theorem TS.done {w W : World} {n : Nat} {a : Option Addr} {m cap : Nat} {L : List Ch.Lk} {K : Nat} {v : Value} {O C : Nat → Nat} {R : Nat → Nat → Nat} (h : TS w n a m cap L K v O C R W) (h1 : 1 ≤ K) : TabPost w n K L (.returned v) W := by
  obtain ⟨g, cp, rfl, hc⟩ := h.ov h1
  exact ⟨g, cp, O, C, R, rfl, ⟨hc, h.t⟩, h.b⟩

set_option linter.unusedSimpArgs false in
set_option maxRecDepth 100000 in
set_option maxHeartbeats 16000000 in
theorem tables_any (n : Int) (a : Option Addr) (m cap : Nat) (L : List Ch.Lk) (hm : Hid (L.length = m)) (hc : (Ch.check n L).1 = 0) (w : World) (hL : Hid (LksAt w a L)) :
    Calls Try.prog 50 #[sysV n a m cap, .int .i64 n] w (TabPost w n.toNat (n.toNat + 1) L) := by
  obtain ⟨i0, hi, hz0, hz1, hz2⟩ := info_parts infoTb
  obtain ⟨n1, n2, n3, hok⟩ := Ch.check_ok hc
  obtain ⟨N, rfl⟩ : ∃ N : Nat, n = (N : Int) := ⟨n.toNat, by omega⟩
  simp only [Int.toNat_natCast]
  have hm3 : m ≤ 300 := by have := hm.out; omega
  have HFl := Lib.hid fun (W : World) => filled_any N (by omega) (by omega) W
  have hok9 := Lib.hid hok
  unfold sysV at *
  clear hc hok
  go_enter Try.func50, Try.ntmps50
  go_wp2_with fail
  refine (HFl.out _).mono ?_
  rintro e w1 ⟨ob, tc, R, rfl, ht, hb, hob, hR⟩
  have hB := bstep1 (Below.refl _ _) hb
  have hszw : w.heap.size + 1 ≤ w1.heap.size := by have := hb.size; simp at this; omega
  have hTS : Hid (TS w N a m cap L 1 (.slice (some ⟨w1.heap.size, 0, none⟩) 1 1) (fun _ => ob) (fun _ => tc) (fun _ => R) (w1.alloc (Obj.cells #[.slice (some ⟨ob, 0, none⟩) N tc] 35))) := Lib.hid (by
    have hX : Below w1.heap.size w1 (w1.alloc (Obj.cells #[.slice (some ⟨ob, 0, none⟩) N tc] 35)) := below_alloc (Below.refl _ _) _
    refine ⟨cell_alloc (kept1 (by simp [go_sem]) hb) _, cell_alloc (kept1 (by simp [go_sem]) hb) _, (hL.out.below hB).below hX, hB.trans (hX.mono hB.size), ⟨rfl, .inr ⟨w1.heap.size, 1, #[.slice (some ⟨ob, 0, none⟩) N tc], rfl, hszw, heap_alloc_new _ _, by omega, by unfold maxLen; omega, rfl, rfl⟩⟩, fun k hk => ?_⟩
    obtain rfl : k = 0 := by omega
    exact (ht.congr (fun u v _ _ => rfl)).below hX)
  clear hb hB ht hob hR hszw
  go_wp2
  generalize w1.alloc (Obj.cells #[.slice (some ⟨ob, 0, none⟩) N tc] 35) = X1 at *
  generalize w1.heap.size = tb1 at *
  go_loopw [6, 5] (fun i vv wr => ∃ (k : Nat) (O C : Nat → Nat) (R : Nat → Nat → Nat) (v : Value), k ≤ N ∧ i = .int .i64 ((k : Int) + 1) ∧ v = vv ∧ Hid (TS w N a m cap L (k + 1) v O C R wr)) (fun i _ _ => N + 1 - (RowKit.intOf i).toNat)
  case atStart => exact ⟨0, _, _, _, _, Nat.zero_le _, rfl, rfl, hTS⟩
  case round =>
    clear hTS
    obtain ⟨k, O, C, R, v, hk, rfl, rfl, HS⟩ := hrel
    by_cases hlt : k < N
    · have hi5 : (k : Int) + 1 ≤ (N : Int) := by omega
      have hi6 : (0 : Int) ≤ (k : Int) := by omega
      have hi7 : (k : Int) < ((k : Int) + 1) := by omega
      obtain ⟨g, cp, hv9, hcs⟩ := HS.out.ov (by omega)
      have d0 := hcs k (by omega)
      have hw1 : IntKind.i64.wrap (k : Int) = (k : Int) := wrap_ok (by omega) (by omega)
      have k0 := HS.out.c0
      obtain ⟨ok, hOk⟩ : ∃ z, O k = z := ⟨_, rfl⟩
      obtain ⟨ck, hCk⟩ : ∃ z, C k = z := ⟨_, rfl⟩
      rw [hOk, hCk] at d0
      have hold := Lib.hid (HS.out.t k (by omega))
      rw [hOk] at hold
      subst hv9
      clear hcs hOk hCk
      go_wp2_with fail
      refine (HFl.out _).mono ?_
      rintro e w2 ⟨nb, nc, NR, rfl, ht, hb, hob, hR⟩
      have HN : Hid (TN wr N nb NR (Ch.tabN L k 0) w2) := Lib.hid ⟨ht.congr (fun u v _ _ => Ch.tabN_zero), hb, hR⟩
      clear ht hb hob hR d0 k0
      obtain ⟨V, rfl⟩ : ∃ V, V = wr := ⟨_, rfl⟩
      go_wp2
      go_loopw [9] (fun i wr => ∃ u : Nat, u ≤ N ∧ i = .int .i64 u ∧ Hid (TN V N nb NR (Ch.tabN L k u) wr)) (fun i _ => N - (RowKit.intOf i).toNat)
      case atStart => exact ⟨0, Nat.zero_le _, rfl, HN⟩
      case round =>
        clear HN
        obtain ⟨u, hu, rfl, HN⟩ := hrel
        have k0 := kept1 HS.out.c0 HN.out.b
        by_cases hltu : u < N
        · have hi8 : (u : Int) < (N : Int) := by omega
          have hi9 : (0 : Int) ≤ (u : Int) := by omega
          have d0 := HN.out.t.o u hltu
          have d1 := HN.out.t.get hltu hltu
          have z1 := (HN.out.t.r u hltu).frozen u
          have HN2 := Lib.hid ((HN.out.set (v := u) hltu 1152921504606846976).congr (E := Ch.tabM L k u 0) (fun x y _ _ => Ch.tabN_begin))
          clear HN
          go_wp2
          clear d0 d1 z1 k0
          go_loopw [10] (fun i wr => ∃ j : Nat, j ≤ m ∧ i = .int .i64 j ∧ Hid (TN V N nb NR (Ch.tabM L k u j) wr)) (fun i _ => m - (RowKit.intOf i).toNat)
          case atStart => exact ⟨0, Nat.zero_le _, rfl, HN2⟩
          case round =>
            clear HN2
            obtain ⟨j, hj, rfl, HN⟩ := hrel
            have k1 := kept1 HS.out.c1 HN.out.b
            by_cases hltj : j < m
            · have hi10 : (j : Int) < (m : Int) := by omega
              have hi11 : (0 : Int) ≤ (j : Int) := by omega
              obtain ⟨y, rfl, g0, g1, g2⟩ := (HS.out.l.below HN.out.b) j (by have := hm.out; omega)
              have hok1 := Ch.okLk_spec (hok9.out j (by have := hm.out; omega))
              obtain ⟨f, t, mo, hlk⟩ : ∃ f t mo, L.getD j Ch.noLk = ⟨f, t, mo⟩ := ⟨_, _, _, rfl⟩
              have hkp := fun (x y : Nat) (h : Ch.tabF L k u (L.getD j Ch.noLk).f.toNat = 1152921504606846976) => Ch.tabM_keep (a := x) (b := y) h
              have hnx := fun (x y : Nat) (z : Int) (h : Ch.tabF L k u (L.getD j Ch.noLk).f.toNat ≠ 1152921504606846976) => Ch.tabM_next (a := x) (b := y) (z := z) h
              rw [hlk] at g0 g1 g2 hok1 hkp hnx
              simp only at hok1 g0 g1 g2 hkp hnx
              obtain ⟨o1, o2, o3, o4, _, o6, o7⟩ := hok1
              obtain ⟨p, rfl⟩ : ∃ u : Nat, f = (u : Int) := ⟨f.toNat, by omega⟩
              obtain ⟨q, rfl⟩ : ∃ v : Nat, t = (v : Int) := ⟨t.toNat, by omega⟩
              simp only [Int.toNat_natCast] at hkp hnx
              have hp : p < N := by omega
              have hq : q < N := by omega
              have hsm := Ch.tabF_small hok9.out (k := k) (u := u) (v := p) (by omega)
              go_upto_region 15 with fail
              have hbX : Below wr.heap.size wr (wr.alloc (Obj.cells #[.int .i64 (p : Int), .int .i64 (q : Int), .int .i64 mo] 58)) := (Below.refl _ _).alloc (Nat.le_refl _) _
              have HX := Lib.hid (HN.out.below hbX)
              have HO := Lib.hid ((hold.out.below HN.out.b).below hbX)
              have l0 : (wr.alloc (Obj.cells #[.int .i64 (p : Int), .int .i64 (q : Int), .int .i64 mo] 58)).cell? ⟨wr.heap.size, 0, none⟩ = some (.int .i64 (p : Int)) := by simp [go_sem]
              have l1 : (wr.alloc (Obj.cells #[.int .i64 (p : Int), .int .i64 (q : Int), .int .i64 mo] 58)).cell? ⟨wr.heap.size, 1, none⟩ = some (.int .i64 (q : Int)) := by simp [go_sem]
              have l2 : (wr.alloc (Obj.cells #[.int .i64 (p : Int), .int .i64 (q : Int), .int .i64 mo] 58)).cell? ⟨wr.heap.size, 2, none⟩ = some (.int .i64 mo) := by simp [go_sem]
              clear HN k1 g0 g1 g2 hbX
              generalize wr.alloc (Obj.cells #[.int .i64 (p : Int), .int .i64 (q : Int), .int .i64 mo] 58) = X at *
              generalize wr.heap.size = lb at *
              have d0 := HO.out.o u hltu
              have d1 := HO.out.get hltu hp
              obtain ⟨ru, hru⟩ : ∃ z, R k u = z := ⟨_, rfl⟩
              rw [hru] at d0 d1
              clear hru
              by_cases hx : Ch.tabF L k u p = 1152921504606846976
              · rw [hx] at d1
                have HX2 := Lib.hid ((HX.out.congr (E := Ch.tabM L k u (j + 1)) (fun x y _ _ => hkp x y hx)).below (Below.refl _ _).drew)
                clear HX HO hx hkp hnx hlk hsm
                go_region
                go_wp2
                go_roundw
                case rel => exact ⟨j + 1, by omega, by go_num, HX2⟩
                case measure => show m - ((j : Int) + 1).toNat < m - (j : Int).toNat; omega
              · have hsm2 := Ch.tabJ_small hok9.out (k := k) (u := u) (v := q) (j := j) (by omega) (by have := hm.out; omega)
                obtain ⟨x, hx2⟩ : ∃ x, Ch.tabF L k u p = x := ⟨_, rfl⟩
                obtain ⟨c, hc2⟩ : ∃ c, Ch.tabJ L (Ch.tabF L k u) j q = c := ⟨_, rfl⟩
                have hnx2 := Lib.hid fun (a b : Nat) => hnx a b (min c (x + mo)) hx (by rw [hc2, hx2])
                rw [hx2] at d1 hx hsm
                rw [hc2] at hsm2
                obtain ⟨s1, s2⟩ := hsm
                have s3 : x ≤ 450359962737049600 := by omega
                have hxe : (x != 1152921504606846976) = true := by rw [bne_iff_ne]; exact hx
                have hwr : IntKind.i64.wrap (x + mo) = x + mo := wrap_ok (by omega) (by omega)
                replace hc2 := Lib.hid hc2
                clear hkp hnx hlk hx2 s2
                go_region
                have HY := Lib.hid (HX.out.below (Below.refl _ _).drew)
                have HOY := Lib.hid (HO.out.below (Below.refl _ _).drew)
                have m0 : X.drew.cell? ⟨lb, 0, none⟩ = some (.int .i64 (p : Int)) := l0
                have m1 : X.drew.cell? ⟨lb, 1, none⟩ = some (.int .i64 (q : Int)) := l1
                have m2 : X.drew.cell? ⟨lb, 2, none⟩ = some (.int .i64 mo) := l2
                have b0 : X.drew.cell? ⟨ok, u, none⟩ = some (.slice (some ⟨ru, 0, none⟩) N N) := d0
                have b1 : X.drew.cell? ⟨ru, p, none⟩ = some (.int .i64 x) := d1
                clear HX HO l0 l1 l2 d0 d1 HOY
                generalize X.drew = Y at *
                have e0 := HY.out.t.o u hltu
                have e1 := HY.out.t.get hltu hq
                rw [Ch.tabM_at, hc2.out] at e1
                have z1 := (HY.out.t.r u hltu).frozen q
                have HX2 := Lib.hid (((HY.out.set (v := q) hltu (min c (x + mo))).congr (E := Ch.tabM L k u (j + 1)) (fun a b _ _ => hnx2.out a b)).below (Below.refl _ _).drew)
                obtain ⟨nu, hnu⟩ : ∃ z, NR u = z := ⟨_, rfl⟩
                rw [hnu] at e0 e1 z1 HX2
                clear HY hnx2 hc2 hnu hxe
                have S0 : Y.drew.cell? ⟨nb, u, none⟩ = some (.slice (some ⟨nu, 0, none⟩) N N) ∧ Y.drew.cell? ⟨nu, q, none⟩ = some (.int .i64 c) ∧ Y.drew.cell? ⟨ok, u, none⟩ = some (.slice (some ⟨ru, 0, none⟩) N N) ∧ Y.drew.cell? ⟨ru, p, none⟩ = some (.int .i64 x) ∧ Y.drew.cell? ⟨lb, 0, none⟩ = some (.int .i64 (p : Int)) ∧ Y.drew.cell? ⟨lb, 1, none⟩ = some (.int .i64 (q : Int)) ∧ Y.drew.cell? ⟨lb, 2, none⟩ = some (.int .i64 mo) := ⟨e0, e1, b0, b1, m0, m1, m2⟩
                go_upto_region 16 with fail
                refine region_head_held 27 (fun w' => w'.cell? ⟨nb, u, none⟩ = some (.slice (some ⟨nu, 0, none⟩) N N) ∧ w'.cell? ⟨nu, q, none⟩ = some (.int .i64 c) ∧ w'.cell? ⟨ok, u, none⟩ = some (.slice (some ⟨ru, 0, none⟩) N N) ∧ w'.cell? ⟨ru, p, none⟩ = some (.int .i64 x) ∧ w'.cell? ⟨lb, 0, none⟩ = some (.int .i64 (p : Int)) ∧ w'.cell? ⟨lb, 1, none⟩ = some (.int .i64 (q : Int)) ∧ w'.cell? ⟨lb, 2, none⟩ = some (.int .i64 mo)) (by kernel_rfl) (by kernel_rfl) S0 (fun hHeld => ?_)
                simp only [List.take_succ_cons, List.take_zero, List.drop_succ_cons, List.drop_zero]
                clear e0 b0 b1 m0 m1 m2
                refine wpAnyH_take (i := 0) (v := ?_) rfl (by kernel_rfl) (by kernel_rfl) (by kernel_rfl) (fun _ _ _ h => h) (Or.inl ⟨by rfl, ?_⟩) (by assumption) ?_
                rotate_left 1
                · (intro w hSw; (try dsimp only at hSw); go_simp; all_goals with_reducible rfl)
                try simp only [Act.put, List.setIfInBounds_toArray, List.set_cons_zero, List.set_cons_succ]
                refine wpAnyH_take (i := 1) (v := ?_) rfl (by kernel_rfl) (by kernel_rfl) (by kernel_rfl) (fun _ _ _ h => h) (Or.inl ⟨by rfl, ?_⟩) (by assumption) ?_
                rotate_left 1
                · (intro w hSw; (try dsimp only at hSw); go_simp; all_goals with_reducible rfl)
                try simp only [Act.put, List.setIfInBounds_toArray, List.set_cons_zero, List.set_cons_succ]
                refine wpAnyH_take (i := 2) (v := ?_) rfl (by kernel_rfl) (by kernel_rfl) (by kernel_rfl) (fun _ _ _ h => h) (Or.inl ⟨by rfl, ?_⟩) (by assumption) ?_
                rotate_left 1
                · (intro w hSw; (try dsimp only at hSw); go_simp; all_goals with_reducible rfl)
                try simp only [Act.put, List.setIfInBounds_toArray, List.set_cons_zero, List.set_cons_succ]
                refine wpAnyH_take (i := 3) (v := ?_) rfl (by kernel_rfl) (by kernel_rfl) (by kernel_rfl) (fun _ _ _ h => h) (Or.inl ⟨by rfl, ?_⟩) (by assumption) ?_
                rotate_left 1
                · (intro w hSw; (try dsimp only at hSw); go_simp; all_goals with_reducible rfl)
                try simp only [Act.put, List.setIfInBounds_toArray, List.set_cons_zero, List.set_cons_succ]
                refine wpAnyH_take (i := 4) (v := ?_) rfl (by kernel_rfl) (by kernel_rfl) (by kernel_rfl) (fun _ _ _ h => h) (Or.inl ⟨by rfl, ?_⟩) (by assumption) ?_
                rotate_left 1
                · (intro w hSw; (try dsimp only at hSw); go_simp; all_goals with_reducible rfl)
                try simp only [Act.put, List.setIfInBounds_toArray, List.set_cons_zero, List.set_cons_succ]
                refine wpAnyH_take (i := 5) (v := ?_) rfl (by kernel_rfl) (by kernel_rfl) (by kernel_rfl) (fun _ _ _ h => h) (Or.inl ⟨by rfl, ?_⟩) (by assumption) ?_
                rotate_left 1
                · (intro w hSw; (try dsimp only at hSw); go_simp; all_goals with_reducible rfl)
                try simp only [Act.put, List.setIfInBounds_toArray, List.set_cons_zero, List.set_cons_succ]
                refine wpAnyH_take (i := 6) (v := ?_) rfl (by kernel_rfl) (by kernel_rfl) (by kernel_rfl) (fun _ _ _ h => h) (Or.inl ⟨by rfl, ?_⟩) (by assumption) ?_
                rotate_left 1
                · (intro w hSw; (try dsimp only at hSw); go_simp; all_goals with_reducible rfl)
                try simp only [Act.put, List.setIfInBounds_toArray, List.set_cons_zero, List.set_cons_succ]
                refine wpAnyH_take (i := 7) (v := ?_) rfl (by kernel_rfl) (by kernel_rfl) (by kernel_rfl) (fun _ _ _ h => h) (Or.inl ⟨by rfl, ?_⟩) (by assumption) ?_
                rotate_left 1
                · (intro w hSw; (try dsimp only at hSw); go_simp; all_goals with_reducible rfl)
                try simp only [Act.put, List.setIfInBounds_toArray, List.set_cons_zero, List.set_cons_succ]
                refine wpAnyH_take (i := 8) (v := ?_) rfl (by kernel_rfl) (by kernel_rfl) (by kernel_rfl) (fun _ _ _ h => h) (Or.inl ⟨by rfl, ?_⟩) (by assumption) ?_
                rotate_left 1
                · (intro w hSw; (try dsimp only at hSw); go_simp; all_goals with_reducible rfl)
                try simp only [Act.put, List.setIfInBounds_toArray, List.set_cons_zero, List.set_cons_succ]
                refine wpAnyH_take (i := 9) (v := ?_) rfl (by kernel_rfl) (by kernel_rfl) (by kernel_rfl) (fun _ _ _ h => h) (Or.inl ⟨by rfl, ?_⟩) (by assumption) ?_
                rotate_left 1
                · (intro w hSw; (try dsimp only at hSw); go_simp; all_goals with_reducible rfl)
                try simp only [Act.put, List.setIfInBounds_toArray, List.set_cons_zero, List.set_cons_succ]
                refine wpAnyH_take (i := 10) (v := ?_) rfl (by kernel_rfl) (by kernel_rfl) (by kernel_rfl) (fun _ _ _ h => h) (Or.inl ⟨by rfl, ?_⟩) (by assumption) ?_
                rotate_left 1
                · (intro w hSw; (try dsimp only at hSw); go_simp; all_goals with_reducible rfl)
                try simp only [Act.put, List.setIfInBounds_toArray, List.set_cons_zero, List.set_cons_succ]
                refine wpAnyH_take (i := 11) (v := ?_) rfl (by kernel_rfl) (by kernel_rfl) (by kernel_rfl) (fun _ _ _ h => h) (Or.inl ⟨by rfl, ?_⟩) (by assumption) ?_
                rotate_left 1
                · (intro w hSw; (try dsimp only at hSw); go_simp; all_goals with_reducible rfl)
                try simp only [Act.put, List.setIfInBounds_toArray, List.set_cons_zero, List.set_cons_succ]
                refine wpAnyH_take (i := 12) (v := ?_) rfl (by kernel_rfl) (by kernel_rfl) (by kernel_rfl) (fun _ _ _ h => h) (Or.inl ⟨by rfl, ?_⟩) (by assumption) ?_
                rotate_left 1
                · (intro w hSw; (try dsimp only at hSw); go_simp; all_goals with_reducible rfl)
                try simp only [Act.put, List.setIfInBounds_toArray, List.set_cons_zero, List.set_cons_succ]
                refine wpAnyH_take (i := 13) (v := ?_) rfl (by kernel_rfl) (by kernel_rfl) (by kernel_rfl) (fun _ _ _ h => h) (Or.inl ⟨by rfl, ?_⟩) (by assumption) ?_
                rotate_left 1
                · (intro w hSw; (try dsimp only at hSw); go_simp; all_goals with_reducible rfl)
                try simp only [Act.put, List.setIfInBounds_toArray, List.set_cons_zero, List.set_cons_succ]
                refine wpAnyH_take (i := 14) (v := ?_) rfl (by kernel_rfl) (by kernel_rfl) (by kernel_rfl) (fun _ _ _ h => h) (Or.inl ⟨by rfl, ?_⟩) (by assumption) ?_
                rotate_left 1
                · (intro w hSw; (try dsimp only at hSw); go_simp; all_goals with_reducible rfl)
                try simp only [Act.put, List.setIfInBounds_toArray, List.set_cons_zero, List.set_cons_succ]
                refine wpAnyH_take (i := 15) (v := ?_) rfl (by kernel_rfl) (by kernel_rfl) (by kernel_rfl) (fun _ _ _ h => h) (Or.inl ⟨by rfl, ?_⟩) (by assumption) ?_
                rotate_left 1
                · (intro w hSw; (try dsimp only at hSw); go_simp; all_goals with_reducible rfl)
                try simp only [Act.put, List.setIfInBounds_toArray, List.set_cons_zero, List.set_cons_succ]
                refine wpAnyH_take (i := 16) (v := ?_) rfl (by kernel_rfl) (by kernel_rfl) (by kernel_rfl) (fun _ _ _ h => h) (Or.inl ⟨by rfl, ?_⟩) (by assumption) ?_
                rotate_left 1
                · (intro w hSw; (try dsimp only at hSw); go_simp; all_goals with_reducible rfl)
                try simp only [Act.put, List.setIfInBounds_toArray, List.set_cons_zero, List.set_cons_succ]
                refine wpAnyH_take (i := 17) (v := ?_) rfl (by kernel_rfl) (by kernel_rfl) (by kernel_rfl) (fun _ _ _ h => h) (Or.inl ⟨by rfl, ?_⟩) (by assumption) ?_
                rotate_left 1
                · (intro w hSw; (try dsimp only at hSw); go_simp; all_goals with_reducible rfl)
                try simp only [Act.put, List.setIfInBounds_toArray, List.set_cons_zero, List.set_cons_succ]
                refine wpAnyH_take (i := 18) (v := ?_) rfl (by kernel_rfl) (by kernel_rfl) (by kernel_rfl) (fun _ _ _ h => h) (Or.inl ⟨by rfl, ?_⟩) (by assumption) ?_
                rotate_left 1
                · (intro w hSw; (try dsimp only at hSw); go_simp; all_goals with_reducible rfl)
                try simp only [Act.put, List.setIfInBounds_toArray, List.set_cons_zero, List.set_cons_succ]
                refine wpAnyH_take (i := 19) (v := ?_) rfl (by kernel_rfl) (by kernel_rfl) (by kernel_rfl) (fun _ _ _ h => h) (Or.inl ⟨by rfl, ?_⟩) (by assumption) ?_
                rotate_left 1
                · (intro w hSw; (try dsimp only at hSw); go_simp; all_goals with_reducible rfl)
                try simp only [Act.put, List.setIfInBounds_toArray, List.set_cons_zero, List.set_cons_succ]
                refine wpAnyH_take (i := 20) (v := ?_) rfl (by kernel_rfl) (by kernel_rfl) (by kernel_rfl) (fun _ _ _ h => h) (Or.inl ⟨by rfl, ?_⟩) (by assumption) ?_
                rotate_left 1
                · (intro w hSw; (try dsimp only at hSw); go_simp; all_goals with_reducible rfl)
                try simp only [Act.put, List.setIfInBounds_toArray, List.set_cons_zero, List.set_cons_succ]
                refine wpAnyH_take (i := 21) (v := ?_) rfl (by kernel_rfl) (by kernel_rfl) (by kernel_rfl) (fun _ _ _ h => h) (Or.inl ⟨by rfl, ?_⟩) (by assumption) ?_
                rotate_left 1
                · (intro w hSw; (try dsimp only at hSw); go_simp; all_goals with_reducible rfl)
                try simp only [Act.put, List.setIfInBounds_toArray, List.set_cons_zero, List.set_cons_succ]
                refine wpAnyH_take (i := 22) (v := ?_) rfl (by kernel_rfl) (by kernel_rfl) (by kernel_rfl) (fun _ _ _ h => h) (Or.inl ⟨by rfl, ?_⟩) (by assumption) ?_
                rotate_left 1
                · (intro w hSw; (try dsimp only at hSw); go_simp; all_goals with_reducible rfl)
                try simp only [Act.put, List.setIfInBounds_toArray, List.set_cons_zero, List.set_cons_succ]
                refine wpAnyH_take (i := 23) (v := ?_) rfl (by kernel_rfl) (by kernel_rfl) (by kernel_rfl) (fun _ _ _ h => h) (Or.inl ⟨by rfl, ?_⟩) (by assumption) ?_
                rotate_left 1
                · (intro w hSw; (try dsimp only at hSw); go_simp; all_goals with_reducible rfl)
                try simp only [Act.put, List.setIfInBounds_toArray, List.set_cons_zero, List.set_cons_succ]
                refine wpAnyH_take (i := 24) (v := ?_) rfl (by kernel_rfl) (by kernel_rfl) (by kernel_rfl) (fun _ _ _ h => h) (Or.inl ⟨by rfl, ?_⟩) (by assumption) ?_
                rotate_left 1
                · (intro w hSw; (try dsimp only at hSw); go_simp; all_goals with_reducible rfl)
                try simp only [Act.put, List.setIfInBounds_toArray, List.set_cons_zero, List.set_cons_succ]
                refine wpAnyH_take (i := 25) (v := ?_) rfl (by kernel_rfl) (by kernel_rfl) (by kernel_rfl) (fun _ _ _ h => h) (Or.inl ⟨by rfl, ?_⟩) (by assumption) ?_
                rotate_left 1
                · (intro w hSw; (try dsimp only at hSw); go_simp; all_goals with_reducible rfl)
                try simp only [Act.put, List.setIfInBounds_toArray, List.set_cons_zero, List.set_cons_succ]
                refine wpAnyH_take (i := 26) (v := ?_) rfl (by kernel_rfl) (by kernel_rfl) (by kernel_rfl) (fun _ _ _ h => h) (Or.inl ⟨by rfl, ?_⟩) (by assumption) ?_
                rotate_left 1
                · (intro w hSw; (try dsimp only at hSw); go_simp; all_goals with_reducible rfl)
                try simp only [Act.put, List.setIfInBounds_toArray, List.set_cons_zero, List.set_cons_succ]
                refine wpAnyH_done (by kernel_rfl) ?_ _
                show wpList _ _ _ _ _ _
                clear hHeld S0
                go_wp2
                go_roundw
                case rel => exact ⟨j + 1, by omega, by go_num, HX2⟩
                case measure => show m - ((j : Int) + 1).toNat < m - (j : Int).toNat; omega
            · obtain rfl : j = m := by omega
              have hi10 : ¬ (j : Int) < (j : Int) := by omega
              have HN2 := Lib.hid (HN.out.congr (E := Ch.tabN L k (u + 1)) (fun x y _ _ => by rw [← hm.out]; exact Ch.tabM_done))
              clear HN
              go_wp2
              go_roundw
              case rel => exact ⟨u + 1, by omega, by go_num, HN2⟩
              case measure => show N - ((u : Int) + 1).toNat < N - (u : Int).toNat; omega
        · obtain rfl : u = N := by omega
          have hi8 : ¬ (u : Int) < (u : Int) := by omega
          have HF := Lib.hid (HN.out.t.congr (E := Ch.tabF L (k + 1)) (fun x y hx _ => Ch.tabN_end hx))
          have HS3 := Lib.hid (HS.out.below HN.out.b)
          have hown := HS3.out.own
          have hsz3 := HN.out.b.size
          have hsz4 := HS3.out.b.size
          have hsz5 := block_lt_of_cell HS3.out.c0
          clear HN HS hold
          go_wp2_with (first
            | (at_builtin; refine wpList_append_own _ rfl (.tmp 89) (.tmp 91) 73 rfl (w.heap.size + 1) 35 i0 (.slice none 0 0) 1 24 Try.underlying73 hi hz0 hz1 hz2 rfl (by decide) _ _ _ rfl (hown.alloc _) ⟨wr.heap.size, 0, none⟩ 1 1 [.slice (some ⟨nb, 0, none⟩) u nc] rfl rfl ?c1 ?c2 ?c3 ?c4 ?c5 ?_)
            | fail)
          case c2 => rfl
          case c3 => unfold maxLen; omega
          case c4 => omega
          intro v' w4 hown' hgrow hnn
          have HI3 := Lib.hid (HS3.out.push _ hL.out HF.out (by rw [List.range_succ, List.map_append, List.append_assoc]; exact hown') hgrow)
          clear hown hown' hgrow hnn HF HS3
          go_wp2
          go_roundw
          case rel => exact ⟨k + 1, _, _, _, _, by omega, by go_num, rfl, HI3⟩
          case measure => show u + 1 - ((k : Int) + 1 + 1).toNat < u + 1 - ((k : Int) + 1).toNat; omega
    · obtain rfl : k = N := by omega
      have hi5 : ¬ (k : Int) + 1 ≤ (k : Int) := by omega
      have HD := HS.out.done (by omega)
      clear HS
      go_wp2
      go_ret
      exact HD
end Go.Proofs.Ytkcchangkhklcaa
