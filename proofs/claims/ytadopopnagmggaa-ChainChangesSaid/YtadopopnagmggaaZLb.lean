/- The law ChainLattice, walked. -/
import Derived.Test.YtadopopnagmggaaZLa
import Derived.Test.YtadopopnagmggaaZ06
import Derived.Test.YtadopopnagmggaaZFi
set_option linter.unusedSimpArgs false
set_option linter.unusedVariables false
namespace Go.Proofs.Ytadopopnagmggaa
open Go.RowKit

set_option maxRecDepth 100000 in
set_option maxHeartbeats 2000000 in
theorem small_any (n : Int) (a : Option Addr) (m cap : Nat) (b : Bool) (hb : Hid ((decide (m ≤ 310) && decide (n ≤ 70)) = b)) (w : World) :
    Calls Try.prog 7 #[sysV n a m cap] w fun e w' => e = .returned (.bool b) ∧ Below w.heap.size w w' := by
  unfold sysV
  by_cases h1 : m ≤ 310
  · have h2 : (m : Int) ≤ 310 := by omega
    by_cases h3 : n ≤ 70
    · obtain rfl : true = b := by rw [← hb.out]; simp [h1, h3]
      clear hb
      go_enter Try.func7, Try.ntmps7
      go_wp2
      go_ret
      exact ⟨rfl, (by repeat (first | with_reducible exact Below.refl _ _ | with_reducible assumption | refine below_drewN ?_ _ | refine Below.drew ?_ | refine Below.alloc ?_ (by first | (simp; done) | (simp; omega) | omega) _ | refine Below.setCell ?_ (by first | (simp; done) | (simp; omega) | omega) _ | refine Below.trans ?_ (Below.mono (by assumption) (by first | (simp; done) | (simp; omega) | omega))))⟩
    · obtain rfl : false = b := by rw [← hb.out]; simp [h3]
      clear hb
      go_enter Try.func7, Try.ntmps7
      go_wp2
      go_ret
      exact ⟨rfl, (by repeat (first | with_reducible exact Below.refl _ _ | with_reducible assumption | refine below_drewN ?_ _ | refine Below.drew ?_ | refine Below.alloc ?_ (by first | (simp; done) | (simp; omega) | omega) _ | refine Below.setCell ?_ (by first | (simp; done) | (simp; omega) | omega) _ | refine Below.trans ?_ (Below.mono (by assumption) (by first | (simp; done) | (simp; omega) | omega))))⟩
  · have h2 : ¬ (m : Int) ≤ 310 := by omega
    obtain rfl : false = b := by rw [← hb.out]; simp [h1]
    clear hb
    go_enter Try.func7, Try.ntmps7
    go_wp2
    go_ret
    exact ⟨rfl, (by repeat (first | with_reducible exact Below.refl _ _ | with_reducible assumption | refine below_drewN ?_ _ | refine Below.drew ?_ | refine Below.alloc ?_ (by first | (simp; done) | (simp; omega) | omega) _ | refine Below.setCell ?_ (by first | (simp; done) | (simp; omega) | omega) _ | refine Below.trans ?_ (Below.mono (by assumption) (by first | (simp; done) | (simp; omega) | omega))))⟩

def LawPost (w : World) (e : Ending) (w' : World) : Prop := e = .returned (.bool true) ∧ Below w.heap.size w w'

/-- two lists of one's own -/
structure LP (w W : World) (cv dv : Value) (us ds : List Int) : Prop where
  o1 : W.ownsRow w.heap.size 3 1 cv us.length (us.map iV)
  o2 : W.ownsRow w.heap.size 3 1 dv ds.length (ds.map iV)
  ne : ∀ g, cv.ownBlock = some g → dv.ownBlock = some g → False
  b : Below w.heap.size w W
theorem owns_lt {W : World} {base n size : Nat} {e : TypeId} {v : Value} {xs : List Value} (h : W.ownsRow base e size v n xs) {g : Nat} (hg : v.ownBlock = some g) : g < W.heap.size := by
  rcases h.2 with ⟨rfl, _⟩ | ⟨g', cap, cur, rfl, _, hgb, _⟩
  · cases hg
  · obtain rfl : g' = g := by simpa [Value.ownBlock] using hg
    exact (Array.getElem?_eq_some_iff.1 hgb).1
theorem LP.swap {w W : World} {cv dv : Value} {us ds : List Int} (h : LP w W cv dv us ds) : LP w W dv cv ds us := ⟨h.o2, h.o1, fun g h1 h2 => h.ne g h2 h1, h.b⟩
theorem LP.push {w W W' : World} {cv dv cv' : Value} {us ds : List Int} {z : Int} (o : Obj) (h : LP w W cv dv us ds) (hown : W'.ownsRow w.heap.size 3 1 cv' (us.length + 1) (us.map iV ++ [.int .i64 z])) (hg0 : (W.alloc o).drew.grownBy W' cv.ownBlock) {g : Nat} (hv : cv'.ownBlock = some g) (hat : cv.ownBlock = some g ∨ g = W.heap.size + 1) : LP w W' cv' dv (us ++ [z]) ds := by
  have hg : (W.alloc o).grownBy W' cv.ownBlock := ⟨hg0.os, hg0.tape, hg0.output, hg0.size, hg0.block⟩
  refine ⟨?_, ?_, ?_, below_grown (h.b.alloc h.b.size o) (h.o1.alloc o) hg⟩
  · rw [List.length_append, List.map_append]; exact hown
  · refine (h.o2.alloc o).kept hg ?_
    rcases h.o2.2 with ⟨rfl, _⟩ | ⟨g', cap, cur, rfl, _, _, _⟩
    · exact .inl rfl
    · refine .inr fun e' => ?_
      exact h.ne g' (by simpa [Value.ownBlock] using e'.symm) rfl
  · intro k h1 h2
    rw [hv] at h1
    obtain rfl := Option.some.inj h1
    rcases hat with e | e
    · exact h.ne _ e h2
    · have := owns_lt h.o2 h2; omega
theorem LP.drew {w W : World} {cv dv : Value} {us ds : List Int} (h : LP w W cv dv us ds) : LP w W.drew cv dv us ds := ⟨h.o1.drew, h.o2.drew, h.ne, h.b.drew⟩

theorem ints_of_ownZ {W : World} {B : Nat} {v : Value} {l : List Int} (h : W.ownsRow B 3 1 v l.length (l.map iV)) : ∃ p cp, v = .slice p l.length cp ∧ IntsAt W p l := by
  rcases h.2 with ⟨hv, h0⟩ | ⟨g, cap, cur, hv, _, hgb, _, _, _, ht⟩
  · exact ⟨none, 0, by rw [hv, h0], fun k hk => by omega⟩
  · refine ⟨_, cap, hv, fun k hk => ⟨_, rfl, ?_⟩⟩
    have e : (⟨g, 0, none⟩ : Addr).add k = ⟨g, k, none⟩ := by unfold Addr.add; split <;> simp_all
    have hu : (l.map iV)[k]? = some (.int .i64 (l.getD k 0)) := by
      rw [List.getElem?_map, List.getD, List.getElem?_eq_getElem hk]; rfl
    rw [← ht, List.getElem?_take_of_lt (by omega), Array.getElem?_toList] at hu
    rw [e]
    simp [World.cell?, hgb, hu]
theorem lat_keep {w W W' : World} {cv : Value} {p q : Addr} {x y : Value} (hS : W.cell? p = some x ∧ W.cell? q = some y) (hg : W.grownBy W' cv.ownBlock) (hf : ∀ g, cv.ownBlock = some g → w.heap.size ≤ g) (hp : p.block < w.heap.size) (hq : q.block < w.heap.size) : W'.cell? p = some x ∧ W'.cell? q = some y :=
  ⟨(World.cell?_of_block (hg.block _ (block_lt_of_cell hS.1) (fun e => by have := hf _ e.symm; omega))).trans hS.1, (World.cell?_of_block (hg.block _ (block_lt_of_cell hS.2) (fun e => by have := hf _ e.symm; omega))).trans hS.2⟩

set_option maxRecDepth 100000 in
set_option maxHeartbeats 4000000 in
theorem lattice_walk (n : Int) (a b d : Option Addr) (m cap p c1 c2 : Nat) (L : List Ch.Lk) (xs ys : List Int) (hm : Hid (L.length = m)) (hp : Hid (xs.length = p)) (hq : Hid (ys.length = p)) (hp70 : p ≤ 70) (hsm : Hid ((decide (m ≤ 310) && decide (n ≤ 70)) = true)) (w : World) (hL : Hid (LksAt w a L)) (hx : Hid (IntsAt w b xs)) (hy : Hid (IntsAt w d ys)) :
    Calls Try.prog 6 #[sysV n a m cap, .slice b p c1, .slice d p c2] w (LawPost w) := by
  obtain ⟨i0, hi, hz0, hz1, hz2⟩ := info_parts infoInt
  have HSm := Lib.hid fun (W : World) => small_any n a m cap true hsm W
  have HSa := Lib.hid fun (W : World) => sanity_any W
  have HF := Lib.hid fun (W : World) (hb : Below w.heap.size w W) (bb : Option Addr) (cc : Nat) (l : List Int) (hl : IntsAt W bb l) => fits_any n a cap L bb cc l W (hL.out.below hb) hl
  rw [hm.out] at HF
  obtain ⟨r1, hr1⟩ : ∃ r, Ch.fits n L xs = r := ⟨_, rfl⟩
  obtain ⟨r2, hr2⟩ : ∃ r, Ch.fits n L ys = r := ⟨_, rfl⟩
  obtain ⟨t1, e1⟩ := r1
  obtain ⟨t2, e2⟩ := r2
  have hB0 : Below w.heap.size w (w.alloc (Obj.cells #[.int .i64 n, .slice a m cap] 24)) := below_alloc (Below.refl _ _) _
  unfold sysV at *
  go_enter Try.func6, Try.ntmps6
  have hn1 : ¬ (70 : Int) < (p : Int) := by omega
  go_wp2_with fail
  refine (HSm.out _).mono ?_
  rintro e w1 ⟨rfl, hb⟩
  have k0 : w1.cell? ⟨w.heap.size, 0, none⟩ = some (.int .i64 n) := kept1 (by simp [go_sem]) hb
  have k1 : w1.cell? ⟨w.heap.size, 1, none⟩ = some (.slice a m cap) := kept1 (by simp [go_sem]) hb
  have hB1 := bstep1 (Below.refl _ _) hb
  have HF1 := HF.out w1 hB1 b c1 xs (hx.out.below hB1)
  rw [hr1, hp.out] at HF1
  replace HF1 := Lib.hid HF1
  clear hB0 hb HSm hsm
  go_wp2_with fail
  refine HF1.out.mono ?_
  rintro e w2 ⟨rfl, hb⟩
  have q0 := kept1 k0 hb
  have q1 := kept1 k1 hb
  have hB2 := hB1.trans (hb.mono hB1.size)
  have HF2 := HF.out w2 hB2 d c2 ys (hy.out.below hB2)
  rw [hr2, hq.out] at HF2
  replace HF2 := Lib.hid HF2
  clear hb HF1 k0 k1 hB1
  go_wp2_with fail
  refine HF2.out.mono ?_
  rintro e w3 ⟨rfl, hb⟩
  have k0 := kept1 q0 hb
  have k1 := kept1 q1 hb
  have hB3 := hB2.trans (hb.mono hB2.size)
  clear hb HF2 q0 q1 hB2
  by_cases h1 : e1 = 0
  · subst h1
    by_cases h2 : e2 = 0
    · subst h2
      cases t1
      · go_wp2_with fail
        refine (HSa.out _).mono ?_
        rintro e w4 ⟨rfl, hb⟩
        clear k0 k1
        go_wp2
        go_ret
        exact ⟨rfl, hB3.trans (hb.mono hB3.size)⟩
      cases t2
      · go_wp2_with fail
        refine (HSa.out _).mono ?_
        rintro e w4 ⟨rfl, hb⟩
        clear k0 k1
        go_wp2
        go_ret
        exact ⟨rfl, hB3.trans (hb.mono hB3.size)⟩
      have hlx : xs.length = ys.length := by have := hp.out; have := hq.out; omega
      have HFU := Ch.fits_max hr1 hr2
      have HFD := Ch.fits_min hr1 hr2
      have hLP := Lib.hid (LP.mk (w := w3) (W := w3) (cv := .slice none 0 0) (dv := .slice none 0 0) (us := []) (ds := []) (World.ownsRow_nil _ _ _ _) (World.ownsRow_nil _ _ _ _) (fun g h _ => by cases h) (Below.refl _ _))
      have hx3 := Lib.hid (hx.out.below hB3)
      have hy3 := Lib.hid (hy.out.below hB3)
      have HFl := Lib.hid fun (W : World) (hb : Below w3.heap.size w3 W) (bb : Option Addr) (cc : Nat) (l : List Int) (hl : IntsAt W bb l) => HF.out W (hB3.trans (hb.mono hB3.size)) bb cc l hl
      replace HFU := Lib.hid HFU
      replace HFD := Lib.hid HFD
      replace hlx := Lib.hid hlx
      clear hr1 hr2 HF hL hx hy hm
      go_wp2
      go_loopw [13, 11, 12] (fun i cv dv wr => ∃ k : Nat, k ≤ p ∧ i = .int .i64 (k : Int) ∧ Hid (LP w3 wr cv dv ((List.zipWith max xs ys).take k) ((List.zipWith min xs ys).take k))) (fun i _ _ _ => p - (RowKit.intOf i).toNat)
      case atStart => exact ⟨0, Nat.zero_le _, rfl, hLP⟩
      case round =>
        clear hLP
        obtain ⟨k, hk, rfl, HI⟩ := hrel
        by_cases hlt : k < p
        · have hi5 : (k : Int) < (p : Int) := by omega
          have hi6 : (0 : Int) ≤ (k : Int) := by omega
          obtain ⟨x, rfl, hcx⟩ := hx3.out k (by have := hp.out; omega)
          obtain ⟨y, rfl, hcy⟩ := hy3.out k (by have := hq.out; omega)
          have hnu := Lib.hid (Ch.zip_next max hlx.out (k := k) (by have := hp.out; omega))
          have hnd := Lib.hid (Ch.zip_next min hlx.out (k := k) (by have := hp.out; omega))
          have dx := kept1 hcx HI.out.b
          have dy := kept1 hcy HI.out.b
          obtain ⟨u, hu⟩ : ∃ u, xs.getD k 0 = u := ⟨_, rfl⟩
          obtain ⟨v, hv⟩ : ∃ v, ys.getD k 0 = v := ⟨_, rfl⟩
          rw [hu] at dx hnu hnd
          rw [hv] at dy hnu hnd
          have bx := block_lt_of_cell hcx
          have bY := block_lt_of_cell hcy
          clear hcx hcy hu hv
          have htk : ((List.zipWith max xs ys).take k).length ≤ k := by rw [List.length_take]; omega
          have htk2 : ((List.zipWith min xs ys).take k).length ≤ k := by rw [List.length_take]; omega
          obtain ⟨us, hus⟩ : ∃ us, (List.zipWith max xs ys).take k = us := ⟨_, rfl⟩
          obtain ⟨ds, hds⟩ : ∃ ds, (List.zipWith min xs ys).take k = ds := ⟨_, rfl⟩
          rw [hus] at HI htk hnu
          rw [hds] at HI htk2 hnd
          clear hus hds
          go_upto_region 12 with fail
          have hown1 := Lib.hid HI.out.o1
          have hfar := Lib.hid fun g hg => owns_far HI.out.o1 (g := g) hg
          have hsz := HI.out.b.size
          have S0 : wr.drew.cell? (x.add k) = some (.int .i64 u) ∧ wr.drew.cell? (y.add k) = some (.int .i64 v) := ⟨dx, dy⟩
          go_region_held3 (fun w' => w'.cell? (x.add k) = some (.int .i64 u) ∧ w'.cell? (y.add k) = some (.int .i64 v))
            (first | with_reducible exact S0 | with_reducible exact keepC (by assumption) ((Below.refl _ _).alloc (Nat.le_refl _) _) | exact lat_keep (by assumption) hgrow hfar.out bx bY)
            (first | (refine step_append_lies _ (by rfl) _ _ _ (by rfl) w3.heap.size 3 i0 _ 1 8 Try.underlying32 hi hz0 hz1 hz2 rfl (by omega) _ us.length (us.map iV) (by rfl) ((hown1.out.drew).alloc _) ⟨wr.heap.size, 0, none⟩ 1 1 [.int .i64 (max u v)] (by rfl) (by rfl) (World.news_of_block (cs := #[.int .i64 (max u v)]) (t := 3) (fr := (0, 0)) (heap_alloc_new wr.drew _)) (by simp [Value.oneCell']) (by omega) (by unfold maxLen; omega) (by omega) (by simp; omega) (wr.heap.size + 1) (by simp) ?_; intro g cp wp1 hown2 hgrow hat hlt2))
          have HI2 := Lib.hid (HI.out.push _ hown2 hgrow rfl hat)
          have dx2 := (by assumption : wp1.cell? (x.add k) = some (.int .i64 u) ∧ wp1.cell? (y.add k) = some (.int .i64 v))
          clear hown2 hgrow hat hown1 hfar HI dx dy S0 hsz
          obtain ⟨dx, dy⟩ := dx2
          go_upto_region 13 with fail
          have hown1 := Lib.hid HI2.out.o2
          have hfar := Lib.hid fun g hg => owns_far HI2.out.o2 (g := g) hg
          have hsz := HI2.out.b.size
          have S0 : wp1.drew.cell? (x.add k) = some (.int .i64 u) ∧ wp1.drew.cell? (y.add k) = some (.int .i64 v) := ⟨dx, dy⟩
          go_region_held3 (fun w' => w'.cell? (x.add k) = some (.int .i64 u) ∧ w'.cell? (y.add k) = some (.int .i64 v))
            (first | with_reducible exact S0 | with_reducible exact keepC (by assumption) ((Below.refl _ _).alloc (Nat.le_refl _) _) | exact lat_keep (by assumption) hgrow hfar.out bx bY)
            (first | (refine step_append_lies _ (by rfl) _ _ _ (by rfl) w3.heap.size 3 i0 _ 1 8 Try.underlying32 hi hz0 hz1 hz2 rfl (by omega) _ ds.length (ds.map iV) (by rfl) ((hown1.out.drew).alloc _) ⟨wp1.heap.size, 0, none⟩ 1 1 [.int .i64 (min u v)] (by rfl) (by rfl) (World.news_of_block (cs := #[.int .i64 (min u v)]) (t := 3) (fr := (0, 0)) (heap_alloc_new wp1.drew _)) (by simp [Value.oneCell']) (by omega) (by unfold maxLen; omega) (by omega) (by simp; omega) (wp1.heap.size + 1) (by simp) ?_; intro g2 cp2 wp2 hown2 hgrow hat hlt2))
          have HI3 := Lib.hid ((HI2.out.swap.push _ hown2 hgrow rfl hat).swap)
          clear hown2 hgrow hat hown1 hfar HI2 S0 hsz
          go_wp2
          go_roundw
          case rel => exact ⟨k + 1, by omega, by go_num, Lib.hid (by rw [hnu.out, hnd.out]; exact HI3.out)⟩
          case measure => show p - ((k : Int) + 1).toNat < p - (k : Int).toNat; omega
        · obtain rfl : k = p := by omega
          have hi5 : ¬ (k : Int) < (k : Int) := by omega
          have ezu : (List.zipWith max xs ys).take k = List.zipWith max xs ys := List.take_of_length_le (by have := hp.out; rw [List.length_zipWith]; omega)
          have ezd : (List.zipWith min xs ys).take k = List.zipWith min xs ys := List.take_of_length_le (by have := hp.out; rw [List.length_zipWith]; omega)
          rw [ezu, ezd] at HI
          have hlu : (List.zipWith max xs ys).length = k := by have := hp.out; have := hlx.out; rw [List.length_zipWith]; omega
          have hld : (List.zipWith min xs ys).length = k := by have := hp.out; have := hlx.out; rw [List.length_zipWith]; omega
          obtain ⟨pu, cu, hcu, hIu⟩ := ints_of_ownZ HI.out.o1
          obtain ⟨pd, cd, hcd, hId⟩ := ints_of_ownZ HI.out.o2
          have HF3 := HFl.out wr HI.out.b pu cu _ hIu
          rw [HFU.out, hlu] at HF3
          rw [hlu] at hcu
          rw [hld] at hcd
          subst hcu
          subst hcd
          have k2 := kept1 k0 HI.out.b
          have k3 := kept1 k1 HI.out.b
          have hB4 := HI.out.b
          replace HF3 := Lib.hid HF3
          replace hId := Lib.hid hId
          replace hld := Lib.hid hld
          clear ezu ezd hlu hIu HI HFU k0 k1
          go_wp2_with fail
          refine HF3.out.mono ?_
          rintro e w5 ⟨rfl, hb⟩
          have k0 := kept1 k2 hb
          have k1 := kept1 k3 hb
          have hB5 := hB4.trans (hb.mono hB4.size)
          have HF4 := HFl.out w5 hB5 pd cd _ (hId.out.below hb)
          rw [HFD.out, hld.out] at HF4
          replace HF4 := Lib.hid HF4
          clear hb HF3 k2 k3 hB4 hId hld
          go_wp2_with fail
          refine HF4.out.mono ?_
          rintro e w6 ⟨rfl, hb⟩
          have hB6 := hB5.trans (hb.mono hB5.size)
          clear hb HF4 k0 k1 hB5
          go_wp2_with fail
          refine (HSa.out _).mono ?_
          rintro e w7 ⟨rfl, hb⟩
          have hB7 := hB6.trans (hb.mono hB6.size)
          clear hb
          go_wp2
          go_ret
          exact ⟨rfl, hB3.trans (hB7.mono hB3.size)⟩
    · go_wp2_with fail
      refine (HSa.out _).mono ?_
      rintro e w4 ⟨rfl, hb⟩
      clear k0 k1
      go_wp2
      go_ret
      exact ⟨rfl, hB3.trans (hb.mono hB3.size)⟩
  · go_wp2_with fail
    refine (HSa.out _).mono ?_
    rintro e w4 ⟨rfl, hb⟩
    clear k0 k1
    go_wp2
    go_ret
    exact ⟨rfl, hB3.trans (hb.mono hB3.size)⟩

set_option maxRecDepth 100000 in
set_option maxHeartbeats 4000000 in
theorem lattice_other (n : Int) (a b d : Option Addr) (m cap p q c1 c2 : Nat) (h : ¬ ((decide (m ≤ 310) && decide (n ≤ 70)) = true ∧ p ≤ 70 ∧ p = q)) (w : World) :
    Calls Try.prog 6 #[sysV n a m cap, .slice b p c1, .slice d q c2] w (LawPost w) := by
  have HSa := Lib.hid fun (W : World) => sanity_any W
  obtain ⟨sm, hsm⟩ : ∃ sm, (decide (m ≤ 310) && decide (n ≤ 70)) = sm := ⟨_, rfl⟩
  have HSm := Lib.hid fun (W : World) => small_any n a m cap sm (Lib.hid hsm) W
  rw [hsm] at h
  replace h := Lib.hid h
  clear hsm
  unfold sysV at *
  cases sm
  · go_enter Try.func6, Try.ntmps6
    go_wp2_with fail
    refine (HSm.out _).mono ?_
    rintro e w1 ⟨rfl, hb⟩
    have hB1 := bstep1 (Below.refl _ _) hb
    clear hb HSm
    go_wp2_with fail
    refine (HSa.out _).mono ?_
    rintro e w4 ⟨rfl, hb⟩
    go_wp2
    go_ret
    exact ⟨rfl, hB1.trans (hb.mono hB1.size)⟩
  · by_cases h1 : p ≤ 70
    · have hne : p ≠ q := fun e => h.out ⟨rfl, h1, e⟩
      have hn1 : ¬ (70 : Int) < (p : Int) := by omega
      have hn2 : ((q : Int) != (p : Int)) = true := by rw [bne_iff_ne]; omega
      have hn3 : ¬ ((q : Int) = (p : Int)) := by omega
      go_enter Try.func6, Try.ntmps6
      go_wp2_with fail
      refine (HSm.out _).mono ?_
      rintro e w1 ⟨rfl, hb⟩
      have hB1 := bstep1 (Below.refl _ _) hb
      clear hb HSm
      go_wp2_with fail
      refine (HSa.out _).mono ?_
      rintro e w4 ⟨rfl, hb⟩
      go_wp2
      go_ret
      exact ⟨rfl, hB1.trans (hb.mono hB1.size)⟩
    · have hn1 : (70 : Int) < (p : Int) := by omega
      go_enter Try.func6, Try.ntmps6
      go_wp2_with fail
      refine (HSm.out _).mono ?_
      rintro e w1 ⟨rfl, hb⟩
      have hB1 := bstep1 (Below.refl _ _) hb
      clear hb HSm
      go_wp2_with fail
      refine (HSa.out _).mono ?_
      rintro e w4 ⟨rfl, hb⟩
      go_wp2
      go_ret
      exact ⟨rfl, hB1.trans (hb.mono hB1.size)⟩

/-- the law, whatever the lists -/
theorem chainLattice_all (n : Int) (a b d : Option Addr) (m cap p q c1 c2 : Nat) (L : List Ch.Lk) (xs ys : List Int) (hm : L.length = m) (hp : xs.length = p) (hq : ys.length = q) (w : World) (hL : LksAt w a L) (hx : IntsAt w b xs) (hy : IntsAt w d ys) :
    Calls Try.prog 6 #[sysV n a m cap, .slice b p c1, .slice d q c2] w (LawPost w) := by
  by_cases h : (decide (m ≤ 310) && decide (n ≤ 70)) = true ∧ p ≤ 70 ∧ p = q
  · obtain ⟨h1, h2, rfl⟩ := h
    exact lattice_walk n a b d m cap p c1 c2 L xs ys (Lib.hid hm) (Lib.hid hp) (Lib.hid hq) h2 (Lib.hid h1) w (Lib.hid hL) (Lib.hid hx) (Lib.hid hy)
  · exact lattice_other n a b d m cap p q c1 c2 h w
end Go.Proofs.Ytadopopnagmggaa
