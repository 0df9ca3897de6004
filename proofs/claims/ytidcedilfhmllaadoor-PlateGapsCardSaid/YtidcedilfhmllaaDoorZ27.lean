/- What the claims of layer 3 share, part 27: several texts one behind the other. -/
import Derived.Test.YtidcedilfhmllaaDoorZ19
import Derived.Test.YtidcedilfhmllaaDoorZ07
import Derived.Test.YtidcedilfhmllaaDoorZ24
import Derived.Maps.OwnIn
import Derived.Sort.LoopGhostIn
import Derived.Sort.QuietIn
import Derived.Sort.CutIn
import Derived.Test.YtidcedilfhmllaaDoorZ20
import Derived.Test.YtidcedilfhmllaaDoorZ13
set_option linter.unusedSimpArgs false
set_option linter.unusedVariables false
/- Contracts of package plate: spread. -/
namespace Pl
theorem pcs_twice (P : Nat → Nat → Int) (q y : Nat) (u v : Int) : pcs (pcs P q y u) q y v = pcs P q y v := by
  funext a c
  unfold pcs
  by_cases h1 : a = q <;> by_cases h2 : c = y <;> simp [h1, h2]
end Pl
namespace Go.Proofs.YtidcedilfhmllaaDoor
open Go.RowKit
attribute [local go_sem] Oper.semAt_some

/-- the world in spread -/
structure KS' (w W : World) (s : Int) (a : Option Addr) (n cap sb N cN mm kk : Nat) (rb : Nat → Nat) (P : Nat → Nat → Int) (rs : List Nat) : Prop where
  k0 : W.cell? ⟨w.heap.size, 0, none⟩ = some (.int .i64 s)
  k1 : W.cell? ⟨w.heap.size + 1, 0, none⟩ = some (.slice a n cap)
  k2 : W.cell? ⟨w.heap.size + 1 + 1, 0, none⟩ = some (.slice (some ⟨sb, 0, none⟩) N cN)
  k3 : W.cell? ⟨w.heap.size + 1 + 1 + 1 + 1, 0, none⟩ = some (.slice (some ⟨w.heap.size + 1 + 1 + 1, 0, none⟩) mm mm)
  mx : MX (w.heap.size + 5) W (w.heap.size + 1 + 1 + 1) mm N kk rb P
  b : Below w.heap.size w W
  mks : ∀ r ∈ rs, w.heap.size + 5 ≤ r ∧ W.heap[r]? = some (.deferred (some []))
theorem KS'.but {T : Nat → Prop} {w W W' : World} {s : Int} {a : Option Addr} {n cap sb N cN mm kk : Nat} {rb : Nat → Nat} {P : Nat → Nat → Int} {rs : List Nat} (h : KS' w W s a n cap sb N cN mm kk rb P rs) (hb : But T W W') (h0 : ∀ k, k < w.heap.size + 5 → ¬ T k) (h2 : ∀ i, i < kk → ¬ T (rb i)) (hm : ∀ r ∈ rs, ¬ T r) : KS' w W' s a n cap sb N cN mm kk rb P rs :=
  ⟨hb.kept h.k0 (h0 _ (by simp only; omega)), hb.kept h.k1 (h0 _ (by simp only; omega)), hb.kept h.k2 (h0 _ (by simp only; omega)), hb.kept h.k3 (h0 _ (by simp only; omega)), h.mx.but hb (h0 _ (by omega)) h2, h.b.trans (hb.below h.b.size (fun k hk => h0 k (by omega))), fun r hr => ⟨(h.mks r hr).1, (hb.block r (Array.getElem?_eq_some_iff.1 (h.mks r hr).2).1 (hm r hr)).trans (h.mks r hr).2⟩⟩
theorem KS'.below {w W W' : World} {s : Int} {a : Option Addr} {n cap sb N cN mm kk : Nat} {rb : Nat → Nat} {P : Nat → Nat → Int} {rs : List Nat} (h : KS' w W s a n cap sb N cN mm kk rb P rs) (hb : Below W.heap.size W W') : KS' w W' s a n cap sb N cN mm kk rb P rs :=
  h.but (T := fun _ => False) ((But.of_below hb).mono (fun _ _ h => h)) (fun _ _ h => h) (fun _ _ h => h) (fun _ _ h => h)
theorem KS'.put {w W : World} {s : Int} {a : Option Addr} {n cap sb N cN mm kk : Nat} {rb : Nat → Nat} {P : Nat → Nat → Int} {rs : List Nat} (h : KS' w W s a n cap sb N cN mm kk rb P rs) {q : Nat} (hq : q < kk) (y : Nat) (v : Int) : KS' w (W.setCell ⟨rb q, y, none⟩ (.int .i64 v)) s a n cap sb N cN mm kk rb (Pl.pcs P q y v) rs := by
  have hs : But (fun g => g = rb q) W (W.setCell ⟨rb q, y, none⟩ (.int .i64 v)) := (But.refl (fun g => g = rb q) W).setCell (p := ⟨rb q, y, none⟩) (.inr rfl) _
  have hB := h.mx.q q hq
  have f : ∀ k, k < w.heap.size + 5 → ¬ k = rb q := fun k hk e => by omega
  refine ⟨hs.kept h.k0 (f _ (by simp only; omega)), hs.kept h.k1 (f _ (by simp only; omega)), hs.kept h.k2 (f _ (by simp only; omega)), hs.kept h.k3 (f _ (by simp only; omega)), h.mx.put hq y v, h.b.trans (hs.below h.b.size (fun k hk => f k (by omega))), fun r hr => ⟨(h.mks r hr).1, (hs.block r (Array.getElem?_eq_some_iff.1 (h.mks r hr).2).1 (fun e => ?_)).trans (h.mks r hr).2⟩⟩
  obtain ⟨cs, h1, _⟩ := h.mx.r q hq
  have h2 := (h.mks r hr).2
  rw [e, h1] at h2
  cases h2
theorem KS'.mark {w W : World} {s : Int} {a : Option Addr} {n cap sb N cN mm kk : Nat} {rb : Nat → Nat} {P : Nat → Nat → Int} {rs : List Nat} (h : KS' w W s a n cap sb N cN mm kk rb P rs) {E : Nat} (hE : w.heap.size + 5 ≤ E) (hD : W.heap[E]? = some (.deferred (some []))) : KS' w W s a n cap sb N cN mm kk rb P (E :: rs) :=
  ⟨h.k0, h.k1, h.k2, h.k3, h.mx, h.b, fun r hr => (List.mem_cons.1 hr).elim (fun e => e ▸ ⟨hE, hD⟩) (h.mks r)⟩

theorem st_cellsS {W : World} {b : Nat} {y : Pl.St} (h : SA W b y) : W.cell? ⟨b, 0, none⟩ = some (.int .i64 y.p) ∧ W.cell? ⟨b, 1, none⟩ = some (.int .i64 (y.t : Int)) ∧ W.cell? ⟨b, 2, none⟩ = some (.bool y.m) ∧ True := by
  have e0 := h.cell (i := 0) (by omega)
  have e1 := h.cell (i := 1) (by omega)
  have e2 := h.cell (i := 2) (by omega)
  simp only [if_true, if_false, Nat.succ_ne_self, Nat.reduceEqDiff] at e0 e1 e2
  exact ⟨e0, e1, e2, trivial⟩
/-- what the loop over a state's cells keeps -/
def KJ (w : World) (S : Nat) (s : Int) (a : Option Addr) (n cap sb N cN mm : Nat) (rb : Nat → Nat) (P : Nat → Nat → Int) (sh : Nat → Int) (ab b2 b5 sn : Nat) (y : Pl.St) (rs : List Nat) (pre : List (Nat × Nat)) (W : World) : Prop :=
  KS' w W s a n cap sb N cN mm mm rb (Pl.sprM sh y.p.toNat y.m P pre) rs ∧ SA W ab y ∧ MK b2 b5 sn y.t W ∧ (∀ r ∈ rs, r < S) ∧ (∀ i, i < mm → rb i < S) ∧ w.heap.size + 5 ≤ S
theorem kj_own (w : World) (S : Nat) (s : Int) (a : Option Addr) (n cap sb N cN mm : Nat) (rb : Nat → Nat) (P : Nat → Nat → Int) (sh : Nat → Int) (ab b2 b5 sn : Nat) (y : Pl.St) (rs : List Nat) : OwnFrom S (KJ w S s a n cap sb N cN mm rb P sh ab b2 b5 sn y rs) := by
  intro pre W W' row ⟨h1, h2, h3, h4, h5, h6⟩ hg hr
  have hr2 : ∀ r, row = some r → ∃ o : Obj, W.heap[r]? = some o ∧ o.isCells = false := fun r e => (hr r e).2
  have far : ∀ k, k < S → ¬ row = some k := fun k hk e => by have := (hr k e).1; omega
  have hab : ¬ row = some ab := fun e => by
    obtain ⟨o, ho, hc⟩ := hr2 _ e
    obtain ⟨cs, hh, _⟩ := h2
    rw [ho] at hh
    obtain rfl := Option.some.inj hh
    simp [Obj.isCells] at hc
  exact ⟨h1.but (butGrown hg) (fun k hk => far k (by omega)) (fun i hi => far _ (h5 i hi)) (fun r hm => far r (h4 r hm)), (butGrown hg).row h2 hab, ⟨cellGrown hg hr2 h3.c, cellGrown hg hr2 h3.f0, cellGrown hg hr2 h3.f1⟩, h4, h5, h6⟩

/-- what spread leaves -/
def SpPost (w : World) (N mm : Nat) (P : Nat → Nat → Int) (e : Ending) (w' : World) : Prop :=
  ∃ pb B rb, e = .returned (.slice (some ⟨pb, 0, none⟩) mm mm) ∧ Hid (MX B w' pb mm N mm rb P) ∧ w.heap.size ≤ pb ∧ Below w.heap.size w w'

set_option maxRecDepth 100000 in
set_option maxHeartbeats 8000000 in
theorem spread_any (s : Nat) (h1 : 1 ≤ s) (h6 : s ≤ 6) (mm : Nat) (hm6 : mm ≤ 6) (a0 : Option Addr) (q0 cap0 : Nat) (a : Option Addr) (n cap mb : Nat) (Y : List Pl.St) (hn : Hid (Y.length = n)) (hn2 : n ≤ 96) (hY : Hid (∀ y ∈ Y, (0 ≤ y.p ∧ y.p < (mm : Int)) ∧ y.t < 8)) (sb N cN : Nat) (hN : s * s = N) (sh : Nat → Int) (hsr : Hid (∀ c, c < N → -4503599627370496 ≤ sh c ∧ sh c ≤ 4503599627370496)) (w : World) (hS : Hid (StsAt w a Y)) (hR : Hid (RowF w sb N sh)) :
    Calls Tryd.prog 58 #[.agg #[.int .i64 (s : Int), .int .i64 (mm : Int), .slice a0 q0 cap0], .agg #[.slice a n cap, .map (some mb)], .slice (some ⟨sb, 0, none⟩) N cN] w (SpPost w N mm (Pl.spr s sh (fun _ _ => 0) Y)) := by
  have hs3 : N ≤ 36 := by rw [← hN]; exact Nat.mul_le_mul h6 h6
  have hmk1 := Lib.hid (mkTable mm (by omega))
  have hmk2 := Lib.hid (mkInts N (by omega))
  refine (callsIn_wide (n := 7)).1 ?_
  refine callsIn_of_wp_marks Tryd.func58 rfl trivial ?_ rfl
  simp only [Tryd.ntmps58, List.size_toArray, List.length_cons, List.length_nil, Nat.reduceAdd, Nat.reduceSub, Array.replicate_succ, Array.replicate_zero, List.push_toArray, List.append_toArray, List.nil_append, List.cons_append]
  gi_upto_region 1 with fail
  have hmk := hmk1.out
  gi_upto_region 2 with fail
  clear hmk hmk1
  have hz3 : (((w.alloc (Obj.cells #[.int .i64 (s : Int), .int .i64 (mm : Int), .slice a0 q0 cap0] 34)).alloc (Obj.cells #[.slice a n cap, .map (some mb)] 92)).alloc (Obj.cells #[.slice (some ⟨sb, 0, none⟩) N cN] 22)).heap.size = w.heap.size + 1 + 1 + 1 := by simp
  have hK0 : Hid (KS' w (((((w.alloc (Obj.cells #[.int .i64 (s : Int), .int .i64 (mm : Int), .slice a0 q0 cap0] 34)).alloc (Obj.cells #[.slice a n cap, .map (some mb)] 92)).alloc (Obj.cells #[.slice (some ⟨sb, 0, none⟩) N cN] 22)).alloc (Obj.cells (madeCells #[.slice none 0 0] mm) 22)).alloc (Obj.cells #[.slice (some ⟨w.heap.size + 1 + 1 + 1, 0, none⟩) mm mm] 50)) (s : Int) a n cap sb N cN mm 0 (fun _ => 0) (fun _ _ => 0) []) := Lib.hid ⟨by simp [go_sem], by simp [go_sem], by simp [go_sem], by simp [go_sem], by
      have h := MX.start (((w.alloc (Obj.cells #[.int .i64 (s : Int), .int .i64 (mm : Int), .slice a0 q0 cap0] 34)).alloc (Obj.cells #[.slice a n cap, .map (some mb)] 92)).alloc (Obj.cells #[.slice (some ⟨sb, 0, none⟩) N cN] 22)) (w.heap.size + 5) mm N (by rw [hz3]; omega) (fun _ => 0) (fun _ _ => 0)
      rw [hz3] at h
      exact h.below (below_alloc (Below.refl _ _) _), below_alloc (below_alloc (below_alloc (below_alloc (below_alloc (Below.refl _ _) _) _) _) _) _, fun r hr => by cases hr⟩
  have hsz0 : w.heap.size + 5 ≤ (((((w.alloc (Obj.cells #[.int .i64 (s : Int), .int .i64 (mm : Int), .slice a0 q0 cap0] 34)).alloc (Obj.cells #[.slice a n cap, .map (some mb)] 92)).alloc (Obj.cells #[.slice (some ⟨sb, 0, none⟩) N cN] 22)).alloc (Obj.cells (madeCells #[.slice none 0 0] mm) 22)).alloc (Obj.cells #[.slice (some ⟨w.heap.size + 1 + 1 + 1, 0, none⟩) mm mm] 50)).heap.size := by simp
  clear hz3
  generalize ((((w.alloc (Obj.cells #[.int .i64 (s : Int), .int .i64 (mm : Int), .slice a0 q0 cap0] 34)).alloc (Obj.cells #[.slice a n cap, .map (some mb)] 92)).alloc (Obj.cells #[.slice (some ⟨sb, 0, none⟩) N cN] 22)).alloc (Obj.cells (madeCells #[.slice none 0 0] mm) 22)).alloc (Obj.cells #[.slice (some ⟨w.heap.size + 1 + 1 + 1, 0, none⟩) mm mm] 50) = X0 at *
  have k3 := hK0.out.k3
  gi_wp2
  clear k3
  gi_loopw [18] (fun iv wr => ∃ (k : Nat) (rb : Nat → Nat), k ≤ mm ∧ iv = .int .i64 (k : Int) ∧ Hid (KS' w wr (s : Int) a n cap sb N cN mm k rb (fun _ _ => 0) []) ∧ w.heap.size + 5 ≤ wr.heap.size) (fun iv _ => mm - (RowKit.intOf iv).toNat)
  case atStart => exact ⟨0, _, Nat.zero_le _, rfl, hK0, hsz0⟩
  case round =>
    clear hK0 hsz0
    clear X0
    obtain ⟨k, rb, hk, rfl, hK, hsz⟩ := hrel
    by_cases hlt : k < mm
    · have i1 : (k : Int) < (mm : Int) := by omega
      have i2 : (0 : Int) ≤ (k : Int) := by omega
      have k2 := hK.out.k2
      have k3 := hK.out.k3
      have hmk := hmk2.out
      have d0 := hK.out.mx.p.cell (i := k) hlt
      have df := hK.out.mx.p.frozen k
      simp only [Nat.lt_irrefl, if_false] at d0
      have hn9 : Hid (KS' w ((wr.alloc (Obj.cells (madeCells #[.int .i64 0] N) 3)).setCell ⟨w.heap.size + 1 + 1 + 1, k, none⟩ (.slice (some ⟨wr.heap.size, 0, none⟩) N N)).drew (s : Int) a n cap sb N cN mm (k + 1) (fun i => if i = k then wr.heap.size else rb i) (fun _ _ => 0) []) := Lib.hid (KS'.below (by
        have hbA := below_alloc (Below.refl wr.heap.size wr) (Obj.cells (madeCells #[.int .i64 0] N) 3)
        have hA := hK.out.below hbA
        have hs9 : But (fun g => g = w.heap.size + 1 + 1 + 1) (wr.alloc (.cells (madeCells #[.int .i64 0] N) 3)) ((wr.alloc (.cells (madeCells #[.int .i64 0] N) 3)).setCell ⟨w.heap.size + 1 + 1 + 1, k, none⟩ (.slice (some ⟨wr.heap.size, 0, none⟩) N N)) := (But.refl (fun g => g = w.heap.size + 1 + 1 + 1) _).setCell (p := ⟨w.heap.size + 1 + 1 + 1, k, none⟩) (.inr rfl) _
        exact ⟨hs9.kept hA.k0 (by simp only; omega), hs9.kept hA.k1 (by simp only; omega), hs9.kept hA.k2 (by simp only; omega), hs9.kept hA.k3 (by simp only; omega), hK.out.mx.more hlt hsz, hA.b.trans (hs9.below hA.b.size (fun g hg e => by omega)), fun r hr => by cases hr⟩) (Below.refl _ _).drew)
      have k2A := cell_alloc k2 (Obj.cells (madeCells #[.int .i64 0] N) 3)
      have k3A := cell_alloc k3 (Obj.cells (madeCells #[.int .i64 0] N) 3)
      have d0A := cell_alloc d0 (Obj.cells (madeCells #[.int .i64 0] N) 3)
      have dfA : (wr.alloc (Obj.cells (madeCells #[.int .i64 0] N) 3)).frozen? ⟨w.heap.size + 1 + 1 + 1, k, none⟩ = false := ((below_alloc (Below.refl wr.heap.size wr) _).frozen (p := ⟨w.heap.size + 1 + 1 + 1, k, none⟩) (by simp only; omega)).trans df
      have hz9 : w.heap.size + 5 ≤ ((wr.alloc (Obj.cells (madeCells #[.int .i64 0] N) 3)).setCell ⟨w.heap.size + 1 + 1 + 1, k, none⟩ (.slice (some ⟨wr.heap.size, 0, none⟩) N N)).drew.heap.size := by simp; omega
      clear hK
      gi_wp2
      gi_region
      gi_wp2
      go_roundw
      case rel => exact ⟨k + 1, _, by omega, by go_num, hn9, hz9⟩
      case measure => first | (simp [RowKit.intOf]; done) | (simp [RowKit.intOf]; omega) | omega
    · obtain rfl : k = mm := by omega
      have i1 : ¬ (k : Int) < (k : Int) := by omega
      clear hmk2
      have k1 := hK.out.k1
      gi_wp2
      rename_i K0 hK0
      generalize hQ0 : Exit.inBlock 2 _ = Q0
      replace hQ0 := Lib.hid hQ0
      replace hK0 := Lib.hid hK0
      refine wpIn_loop_ghost_k (fun gk a' W => ∃ (v9 v10 v11 v12 v32 v33 v34 v35 v36 v37 v38 v39 v40 v41 v42 v43 v44 v45 v46 v47 v48 v49 v50 v51 v52 v53 v54 v55 v56 v57 v58 v59 v60 v61 v62 v63 v64 v65 v66 v67 v68 v69 v70 : Value) (j : Nat) (rs : List Nat), (j ≤ n ∧ gk = n - j ∧ Hid rs.Nodup ∧ Hid (KS' w W (s : Int) a n cap sb N cN k k rb (Pl.spr s sh (fun _ _ => 0) (Y.take j)) rs) ∧ w.heap.size + 5 ≤ W.heap.size) ∧ a' = { tmps := #[.agg #[.int .i64 (s : Int), .int .i64 (k : Int), .slice a0 q0 cap0], .agg #[.slice a n cap, .map (some mb)], .slice (some ⟨sb, 0, none⟩) N cN, .pointer (some ⟨w.heap.size, 0, none⟩), .pointer (some ⟨w.heap.size + 1, 0, none⟩), .pointer (some ⟨w.heap.size + 1 + 1, 0, none⟩), .slice none 0 0, .pointer (some ⟨w.heap.size + 1 + 1 + 1 + 1, 0, none⟩), u8, v9, v10, v11, v12, .pointer (some ⟨w.heap.size, 1, none⟩), .int .i64 (k : Int), .slice (some ⟨w.heap.size + 1 + 1 + 1, 0, none⟩) k k, .slice (some ⟨w.heap.size + 1 + 1 + 1, 0, none⟩) k k, .int .i64 (k : Int), .int .i64 (k : Int), .bool false, u20, u21, u22, u23, u24, u25, u26, u27, .pointer (some ⟨w.heap.size + 1, 0, none⟩), .slice a n cap, .int .i64 (n : Int), .int .i64 (j : Int), v32, v33, v34, v35, v36, v37, v38, v39, v40, v41, v42, v43, v44, v45, v46, v47, v48, v49, v50, v51, v52, v53, v54, v55, v56, v57, v58, v59, v60, v61, v62, v63, v64, v65, v66, v67, v68, v69, v70], defers := marks rs }) n ?_ ?_
      · exact ⟨_, _, _, _, _, _, _, _, _, _, _, _, _, _, _, _, _, _, _, _, _, _, _, _, _, _, _, _, _, _, _, _, _, _, _, _, _, _, _, _, _, _, _, 0, [], ⟨Nat.zero_le _, by omega, Lib.hid List.nodup_nil, hK, hsz⟩, rfl⟩
      · clear hK hsz
        clear k1 wr
        rintro gk _ wq ⟨v9, v10, v11, v12, v32, v33, v34, v35, v36, v37, v38, v39, v40, v41, v42, v43, v44, v45, v46, v47, v48, v49, v50, v51, v52, v53, v54, v55, v56, v57, v58, v59, v60, v61, v62, v63, v64, v65, v66, v67, v68, v69, v70, j, rs, ⟨hj, rfl, HN, HS, hsz⟩, rfl⟩ J K hJ hK
        replace hJ := Lib.hid hJ
        replace hK := Lib.hid hK
        by_cases hlt : j < n
        · have hjl : j < Y.length := by have := hn.out; omega
          obtain ⟨⟨yp, t, m⟩, hz⟩ : ∃ y, Y[j]? = some y := ⟨_, List.getElem?_eq_getElem hjl⟩
          obtain ⟨x, rfl, hc0, hc1, hc2⟩ := hS.out j _ hz
          have hyy := hY.out _ (List.mem_of_getElem? hz)
          simp only at hyy hc0 hc1 hc2
          obtain ⟨qn, rfl⟩ : ∃ qn : Nat, yp = (qn : Int) := ⟨yp.toNat, by omega⟩
          have hqn : qn < k := by omega
          have ht : t < 8 := hyy.2
          have htk : Hid (Y.take (j + 1) = Y.take j ++ [⟨(qn : Int), t, m⟩]) := Lib.hid (by rw [List.take_add_one, hz]; rfl)
          clear hyy hz
          replace hc0 := kept1 hc0 HS.out.b
          replace hc1 := kept1 hc1 HS.out.b
          replace hc2 := kept1 hc2 HS.out.b
          have hi5 : (j : Int) < (n : Int) := by omega
          have hi6 : (0 : Int) ≤ (j : Int) := by omega
          have HM := Lib.hid (fun W => moves_any s t ht W)
          cases m
          · have hbX := below_alloc (Below.refl wq.heap.size wq) (Obj.cells #[.int .i64 (qn : Int), .int .i64 (t : Int), .bool false] 111)
            have hX1 : (wq.alloc (Obj.cells #[.int .i64 (qn : Int), .int .i64 (t : Int), .bool false] 111)).cell? ⟨wq.heap.size, 1, none⟩ = some (.int .i64 (t : Int)) := by simp [go_sem]
            have hSX := Lib.hid (sa_new wq ⟨(qn : Int), t, false⟩)
            have hKX := Lib.hid (HS.out.below hbX)
            have hX0 := hKX.out.k0
            gi_wp2_with fail
            refine ⟨trivial, ?_⟩
            refine (callsIn_wide.2 (HM.out _)).mono ?_
            rintro e w2 ⟨b2, b5, rfl, hMK, hb2, hs2', hs5'⟩
            have HS2 := Lib.hid (hKX.out.below hb2)
            have hS2 := Lib.hid (hSX.out.below hb2)
            have hmk := HS2.out.mks
            have hrs : Hid (∀ r ∈ rs, r < w2.heap.size) := Lib.hid (fun r hr => (Array.getElem?_eq_some_iff.1 (hmk r hr).2).1)
            have hrb : Hid (∀ i, i < k → rb i < w2.heap.size) := Lib.hid (fun i hi => (HS2.out.mx.r i hi).lt)
            have hsz2 : w.heap.size + 5 ≤ w2.heap.size := by have := hb2.size; simp at this; omega
            have hrb3 : Hid (∀ i, i < k → rb i < wq.heap.size) := Lib.hid (fun i hi => (HS.out.mx.r i hi).lt)
            have hb25 : wq.heap.size + 1 ≤ b2 ∧ wq.heap.size + 1 ≤ b5 := by simp at hs2' hs5'; omega
            clear HM hbX hX0 hX1 hSX hKX hb2 hs2' hs5' hmk HS hc0 hc1 hc2
            gi_wp2_with fail
            refine range_nextV (enc := mvV) (n := 7) (hps := fun _ => rfl) (by omega) (gf := 98) (lb := #[.pointer (some ⟨b2, 0, none⟩), .pointer (some ⟨b5, 0, none⟩)]) rfl (enters_of Tryd.func98 (by kernel_rfl) rfl)
              (moves_hands 6 (by omega) b2 b5 s t ht h1 h6 w2) (Below.refl _ _)
              (KJ w w2.heap.size (s : Int) (some x) n cap sb N cN k rb (Pl.spr s sh (fun _ _ => 0) (Y.take j)) sh wq.heap.size b2 b5 s ⟨(qn : Int), t, false⟩ rs) (fun _ _ => False) (kj_own _ _ _ _ _ _ _ _ _ _ _ _ _ _ _ _ _ _ _) (fun _ _ _ _ h _ _ => h) ?keep ?init ?a1false ?assign ?body ?done ?stop
            case keep => exact fun pre W h => h.2.2.1
            case init => exact ⟨HS2.out, hS2.out, hMK.out, hrs.out, hrb.out, hsz2⟩
            case assign =>
              intro l x W K' hK'
              simp only [mvV] at hK' ⊢
              gi_wp2
              exact hK'
            case stop => exact fun _ _ _ _ _ h _ => h.elim
            case body =>
              rintro l pre ⟨c, d⟩ W ⟨g1, g2, g3, g4, g5, g6⟩ hpre
              have hmem : (c, d) ∈ Pl.mvs s t (s * s) := hpre.subset (by simp)
              obtain ⟨hc, hd⟩ := Pl.mvs_mem hmem
              simp only at hc hd
              have hd2 : d < s * s := by rw [hd]; exact Pl.tk_lt h6 hc ht
              rw [hN] at hc hd2
              have hsn := Lib.hid (Pl.sprM_snoc sh qn false (Pl.spr s sh (fun _ _ => 0) (Y.take j)) pre (c, d))
              simp only [Int.toNat_natCast] at g1
              obtain ⟨Q, hQ⟩ : ∃ Q, Pl.sprM sh qn false (Pl.spr s sh (fun _ _ => 0) (Y.take j)) pre = Q := ⟨_, rfl⟩
              rw [hQ] at g1 hsn
              have hrow := g1.mx.r qn hqn
              have x0 := g1.k2
              have x1 := g1.k3
              have x2 := g1.mx.p.cell (i := qn) hqn
              simp only [hqn, if_true] at x2
              have x3 := hrow.cell (i := d) hd2
              have x4 := hrow.frozen d
              obtain ⟨x5, _⟩ := (hR.out.below g1.b) c hc
              obtain ⟨y0, y1, y2, _⟩ := st_cellsS g2
              simp only at y0 y1 y2
              have i1 : (0 : Int) ≤ (qn : Int) := by omega
              have i2 : (qn : Int) < (k : Int) := by omega
              have i3 : (0 : Int) ≤ (c : Int) := by omega
              have i4 : (c : Int) < (N : Int) := by omega
              have i5 : (0 : Int) ≤ (d : Int) := by omega
              have i6 : (d : Int) < (N : Int) := by omega
              have HI := Lib.hid (And.intro g1 (And.intro g2 g3))
              clear g1 g2 g3 hmem hpre HS2 hS2 hMK hQ hrow hd
              gi_wp2_with fail
              refine tail_round 11 (fun ⟨_, _, h⟩ => h) rfl (by kernel_rfl) (by kernel_rfl) ?_
              simp only [List.take_succ_cons, List.take_zero, List.drop_succ_cons, List.drop_zero]
              change wpStill _ _ W.drew (fun a' => wpList _ _ _ _ a' W.drew) _ _
              have X0 : W.drew.cell? ⟨w.heap.size + 1 + 1, 0, none⟩ = some (.slice (some ⟨sb, 0, none⟩) N cN) := x0
              have X1 : W.drew.cell? ⟨w.heap.size + 1 + 1 + 1 + 1, 0, none⟩ = some (.slice (some ⟨w.heap.size + 1 + 1 + 1, 0, none⟩) k k) := x1
              have X2 : W.drew.cell? ⟨w.heap.size + 1 + 1 + 1, qn, none⟩ = some (.slice (some ⟨rb qn, 0, none⟩) N N) := x2
              have X3 : W.drew.cell? ⟨rb qn, d, none⟩ = some (.int .i64 (Q qn d)) := x3
              have X4 : W.drew.frozen? ⟨rb qn, d, none⟩ = false := x4
              have X5 : W.drew.cell? ⟨sb, c, none⟩ = some (.int .i64 (sh c)) := x5
              have X6 : W.drew.cell? ⟨wq.heap.size, 0, none⟩ = some (.int .i64 (qn : Int)) := y0
              have X7 : W.drew.cell? ⟨wq.heap.size, 2, none⟩ = some (.bool false) := y2
              have HV := Lib.hid ((HI.out.1.below (Below.refl _ _).drew).put hqn d (sh c))
              have HA := Lib.hid ((HI.out.2.1.below (Below.refl W.heap.size W).drew))
              have hKA : KeepsOthers W W.drew := KeepsOthers.drew _
              have hMd : MK b2 b5 s t W.drew := ⟨HI.out.2.2.c, HI.out.2.2.f0, HI.out.2.2.f1⟩
              have hrb4 := hrb3.out qn hqn
              clear x0 x1 x2 x3 x4 x5 y0 y1 y2 HI
              generalize W.drew = Z at *
              have hs9 : But (fun g => g = rb qn) Z (Z.setCell ⟨rb qn, d, none⟩ (.int .i64 (sh c))) := (But.refl (fun g => g = rb qn) Z).setCell (p := ⟨rb qn, d, none⟩) (.inr rfl) _
              have HA2 := Lib.hid (hs9.row HA.out (fun e => by have e' : wq.heap.size = rb qn := e; omega))
              have hM2 : MK b2 b5 s t (Z.setCell ⟨rb qn, d, none⟩ (.int .i64 (sh c))) := ⟨hs9.kept hMd.c (fun e => by simp only at e; omega), hs9.kept hMd.f0 (fun e => by simp only at e; omega), hs9.kept hMd.f1 (fun e => by simp only at e; omega)⟩
              have Y2 : (Z.setCell ⟨rb qn, d, none⟩ (.int .i64 (sh c))).cell? ⟨wq.heap.size, 2, none⟩ = some (.bool false) := hs9.kept X7 (fun e => by simp only at e; omega)
              repeat still_step
              refine wpStill_nil ?_
              clear X0 X1 X2 X5 X6 X7
              go_wp2
              gi_wp2
              have hk9 : KeepsOthers W (Z.setCell ⟨rb qn, d, none⟩ (.int .i64 (sh c))) := hKA.trans (KeepsOthers.setCell _ _ _)
              exact ⟨hk9.from _, hk9.walks, by simp only [Int.toNat_natCast]; rw [hsn.out]; exact HV.out, HA2.out, hM2, g4, g5, g6⟩
            case done =>
              rintro E W hE ⟨g1, _, _, g4, _, _⟩ hD
              have hne : E ∉ rs := fun hm => by have := g4 E hm; omega
              have hzE : w.heap.size + 5 ≤ W.heap.size := by have := (Array.getElem?_eq_some_iff.1 hD).1; omega
              have e9 : Pl.sprM sh (⟨(qn : Int), t, false⟩ : Pl.St).p.toNat (⟨(qn : Int), t, false⟩ : Pl.St).m (Pl.spr s sh (fun _ _ => 0) (Y.take j)) (Pl.mvs s t (s * s)) = Pl.spr s sh (fun _ _ => 0) (Y.take (j + 1)) := by rw [htk.out, Pl.spr_snoc]
              have g1' := g1
              rw [e9] at g1'
              have HE := Lib.hid (g1'.mark (E := E) (by omega) hD)
              clear g1 g1' HS2 hS2 hMK e9
              gi_wp2
              refine hK.out _ _ (Handed.intro (n - (j + 1)) (by omega) (hJ.out _ _ _ ?_))
              exact ⟨_, _, _, _, _, _, _, _, _, _, _, _, _, _, _, _, _, _, _, _, _, _, _, _, _, _, _, _, _, _, _, _, _, _, _, _, _, _, _, _, _, _, _, j + 1, E :: rs, ⟨by omega, rfl, Lib.hid (List.nodup_cons.2 ⟨hne, HN.out⟩), HE, hzE⟩, rfl⟩
          · have hbX := below_alloc (Below.refl wq.heap.size wq) (Obj.cells #[.int .i64 (qn : Int), .int .i64 (t : Int), .bool true] 111)
            have hX1 : (wq.alloc (Obj.cells #[.int .i64 (qn : Int), .int .i64 (t : Int), .bool true] 111)).cell? ⟨wq.heap.size, 1, none⟩ = some (.int .i64 (t : Int)) := by simp [go_sem]
            have hSX := Lib.hid (sa_new wq ⟨(qn : Int), t, true⟩)
            have hKX := Lib.hid (HS.out.below hbX)
            have hX0 := hKX.out.k0
            gi_wp2_with fail
            refine ⟨trivial, ?_⟩
            refine (callsIn_wide.2 (HM.out _)).mono ?_
            rintro e w2 ⟨b2, b5, rfl, hMK, hb2, hs2', hs5'⟩
            have HS2 := Lib.hid (hKX.out.below hb2)
            have hS2 := Lib.hid (hSX.out.below hb2)
            have hmk := HS2.out.mks
            have hrs : Hid (∀ r ∈ rs, r < w2.heap.size) := Lib.hid (fun r hr => (Array.getElem?_eq_some_iff.1 (hmk r hr).2).1)
            have hrb : Hid (∀ i, i < k → rb i < w2.heap.size) := Lib.hid (fun i hi => (HS2.out.mx.r i hi).lt)
            have hsz2 : w.heap.size + 5 ≤ w2.heap.size := by have := hb2.size; simp at this; omega
            have hrb3 : Hid (∀ i, i < k → rb i < wq.heap.size) := Lib.hid (fun i hi => (HS.out.mx.r i hi).lt)
            have hb25 : wq.heap.size + 1 ≤ b2 ∧ wq.heap.size + 1 ≤ b5 := by simp at hs2' hs5'; omega
            clear HM hbX hX0 hX1 hSX hKX hb2 hs2' hs5' hmk HS hc0 hc1 hc2
            gi_wp2_with fail
            refine range_nextV (enc := mvV) (n := 7) (hps := fun _ => rfl) (by omega) (gf := 98) (lb := #[.pointer (some ⟨b2, 0, none⟩), .pointer (some ⟨b5, 0, none⟩)]) rfl (enters_of Tryd.func98 (by kernel_rfl) rfl)
              (moves_hands 6 (by omega) b2 b5 s t ht h1 h6 w2) (Below.refl _ _)
              (KJ w w2.heap.size (s : Int) (some x) n cap sb N cN k rb (Pl.spr s sh (fun _ _ => 0) (Y.take j)) sh wq.heap.size b2 b5 s ⟨(qn : Int), t, true⟩ rs) (fun _ _ => False) (kj_own _ _ _ _ _ _ _ _ _ _ _ _ _ _ _ _ _ _ _) (fun _ _ _ _ h _ _ => h) ?keep ?init ?a1true ?assign ?body ?done ?stop
            case keep => exact fun pre W h => h.2.2.1
            case init => exact ⟨HS2.out, hS2.out, hMK.out, hrs.out, hrb.out, hsz2⟩
            case assign =>
              intro l x W K' hK'
              simp only [mvV] at hK' ⊢
              gi_wp2
              exact hK'
            case stop => exact fun _ _ _ _ _ h _ => h.elim
            case body =>
              rintro l pre ⟨c, d⟩ W ⟨g1, g2, g3, g4, g5, g6⟩ hpre
              have hmem : (c, d) ∈ Pl.mvs s t (s * s) := hpre.subset (by simp)
              obtain ⟨hc, hd⟩ := Pl.mvs_mem hmem
              simp only at hc hd
              have hd2 : d < s * s := by rw [hd]; exact Pl.tk_lt h6 hc ht
              rw [hN] at hc hd2
              have hsn := Lib.hid (Pl.sprM_snoc sh qn true (Pl.spr s sh (fun _ _ => 0) (Y.take j)) pre (c, d))
              simp only [Int.toNat_natCast] at g1
              obtain ⟨Q, hQ⟩ : ∃ Q, Pl.sprM sh qn true (Pl.spr s sh (fun _ _ => 0) (Y.take j)) pre = Q := ⟨_, rfl⟩
              rw [hQ] at g1 hsn
              have hrow := g1.mx.r qn hqn
              have x0 := g1.k2
              have x1 := g1.k3
              have x2 := g1.mx.p.cell (i := qn) hqn
              simp only [hqn, if_true] at x2
              have x3 := hrow.cell (i := d) hd2
              have x4 := hrow.frozen d
              obtain ⟨x5, _⟩ := (hR.out.below g1.b) c hc
              obtain ⟨y0, y1, y2, _⟩ := st_cellsS g2
              simp only at y0 y1 y2
              have i1 : (0 : Int) ≤ (qn : Int) := by omega
              have i2 : (qn : Int) < (k : Int) := by omega
              have i3 : (0 : Int) ≤ (c : Int) := by omega
              have i4 : (c : Int) < (N : Int) := by omega
              have i5 : (0 : Int) ≤ (d : Int) := by omega
              have i6 : (d : Int) < (N : Int) := by omega
              have HI := Lib.hid (And.intro g1 (And.intro g2 g3))
              clear g1 g2 g3 hmem hpre HS2 hS2 hMK hQ hrow hd
              gi_wp2_with fail
              refine tail_round 11 (fun ⟨_, _, h⟩ => h) rfl (by kernel_rfl) (by kernel_rfl) ?_
              simp only [List.take_succ_cons, List.take_zero, List.drop_succ_cons, List.drop_zero]
              change wpStill _ _ W.drew (fun a' => wpList _ _ _ _ a' W.drew) _ _
              have X0 : W.drew.cell? ⟨w.heap.size + 1 + 1, 0, none⟩ = some (.slice (some ⟨sb, 0, none⟩) N cN) := x0
              have X1 : W.drew.cell? ⟨w.heap.size + 1 + 1 + 1 + 1, 0, none⟩ = some (.slice (some ⟨w.heap.size + 1 + 1 + 1, 0, none⟩) k k) := x1
              have X2 : W.drew.cell? ⟨w.heap.size + 1 + 1 + 1, qn, none⟩ = some (.slice (some ⟨rb qn, 0, none⟩) N N) := x2
              have X3 : W.drew.cell? ⟨rb qn, d, none⟩ = some (.int .i64 (Q qn d)) := x3
              have X4 : W.drew.frozen? ⟨rb qn, d, none⟩ = false := x4
              have X5 : W.drew.cell? ⟨sb, c, none⟩ = some (.int .i64 (sh c)) := x5
              have X6 : W.drew.cell? ⟨wq.heap.size, 0, none⟩ = some (.int .i64 (qn : Int)) := y0
              have X7 : W.drew.cell? ⟨wq.heap.size, 2, none⟩ = some (.bool true) := y2
              have HV := Lib.hid ((HI.out.1.below (Below.refl _ _).drew).put hqn d (sh c))
              have HA := Lib.hid ((HI.out.2.1.below (Below.refl W.heap.size W).drew))
              have hKA : KeepsOthers W W.drew := KeepsOthers.drew _
              have hMd : MK b2 b5 s t W.drew := ⟨HI.out.2.2.c, HI.out.2.2.f0, HI.out.2.2.f1⟩
              have hrb4 := hrb3.out qn hqn
              clear x0 x1 x2 x3 x4 x5 y0 y1 y2 HI
              generalize W.drew = Z at *
              have hs9 : But (fun g => g = rb qn) Z (Z.setCell ⟨rb qn, d, none⟩ (.int .i64 (sh c))) := (But.refl (fun g => g = rb qn) Z).setCell (p := ⟨rb qn, d, none⟩) (.inr rfl) _
              have HA2 := Lib.hid (hs9.row HA.out (fun e => by have e' : wq.heap.size = rb qn := e; omega))
              have hM2 : MK b2 b5 s t (Z.setCell ⟨rb qn, d, none⟩ (.int .i64 (sh c))) := ⟨hs9.kept hMd.c (fun e => by simp only at e; omega), hs9.kept hMd.f0 (fun e => by simp only at e; omega), hs9.kept hMd.f1 (fun e => by simp only at e; omega)⟩
              have Y2 : (Z.setCell ⟨rb qn, d, none⟩ (.int .i64 (sh c))).cell? ⟨wq.heap.size, 2, none⟩ = some (.bool true) := hs9.kept X7 (fun e => by simp only at e; omega)
              repeat still_step
              refine wpStill_nil ?_
              clear X0 X1 X2 X5 X6 X7
              go_wp2
              have hk8 : KeepsOthers W (Z.setCell ⟨rb qn, d, none⟩ (.int .i64 (sh c))) := hKA.trans (KeepsOthers.setCell _ _ _)
              generalize Z.setCell ⟨rb qn, d, none⟩ (.int .i64 (sh c)) = V at *
              clear X3 X4
              have u2 := HV.out.mx.p.cell (i := qn) hqn
              simp only [hqn, if_true] at u2
              have u3 : V.cell? ⟨rb qn, d, none⟩ = some (.int .i64 (sh c)) := by
                have h := (HV.out.mx.r qn hqn).cell (i := d) hd2
                rw [h]
                simp [Pl.pcs]
              have u4 := (HV.out.mx.r qn hqn).frozen d
              obtain ⟨u5, _⟩ := (hR.out.below HV.out.b) c hc
              obtain ⟨u6, _, _, _⟩ := st_cellsS (show SA V wq.heap.size ⟨(qn : Int), t, true⟩ from HA2.out)
              simp only at u6
              have hwn : IntKind.i64.wrap (-(sh c)) = -(sh c) := by have := hsr.out c hc; rw [IntWalk.i64_left]; exact IntWalk.wrap64_in _ (by omega)
              gi_wp2_with fail
              refine tail_round 12 (fun ⟨_, _, h⟩ => h) rfl (by kernel_rfl) (by kernel_rfl) ?_
              simp only [List.take_succ_cons, List.take_zero, List.drop_succ_cons, List.drop_zero]
              change wpStill _ _ V.drew (fun a' => wpList _ _ _ _ a' V.drew) _ _
              have X0 : V.drew.cell? ⟨w.heap.size + 1 + 1, 0, none⟩ = some (.slice (some ⟨sb, 0, none⟩) N cN) := HV.out.k2
              have X1 : V.drew.cell? ⟨w.heap.size + 1 + 1 + 1 + 1, 0, none⟩ = some (.slice (some ⟨w.heap.size + 1 + 1 + 1, 0, none⟩) k k) := HV.out.k3
              have X2 : V.drew.cell? ⟨w.heap.size + 1 + 1 + 1, qn, none⟩ = some (.slice (some ⟨rb qn, 0, none⟩) N N) := u2
              have X3 : V.drew.cell? ⟨rb qn, d, none⟩ = some (.int .i64 (sh c)) := u3
              have X4 : V.drew.frozen? ⟨rb qn, d, none⟩ = false := u4
              have X5 : V.drew.cell? ⟨sb, c, none⟩ = some (.int .i64 (sh c)) := u5
              have X6 : V.drew.cell? ⟨wq.heap.size, 0, none⟩ = some (.int .i64 (qn : Int)) := u6
              have HV2 : Hid (KS' w (V.drew.setCell ⟨rb qn, d, none⟩ (.int .i64 (-(sh c)))) (s : Int) (some x) n cap sb N cN k k rb (Pl.pcs Q qn d (-(sh c))) rs) := Lib.hid (by
                have h := (HV.out.below (Below.refl _ _).drew).put hqn d (-(sh c))
                rw [Pl.pcs_twice] at h
                exact h)
              have hs8 : But (fun g => g = rb qn) V.drew (V.drew.setCell ⟨rb qn, d, none⟩ (.int .i64 (-(sh c)))) := (But.refl (fun g => g = rb qn) V.drew).setCell (p := ⟨rb qn, d, none⟩) (.inr rfl) _
              have HA3 := Lib.hid (hs8.row (HA2.out.drew) (fun e => by have e' : wq.heap.size = rb qn := e; omega))
              have hM3 : MK b2 b5 s t (V.drew.setCell ⟨rb qn, d, none⟩ (.int .i64 (-(sh c)))) := ⟨hs8.kept hM2.c (fun e => by simp only at e; omega), hs8.kept hM2.f0 (fun e => by simp only at e; omega), hs8.kept hM2.f1 (fun e => by simp only at e; omega)⟩
              have hk7 : KeepsOthers W (V.drew.setCell ⟨rb qn, d, none⟩ (.int .i64 (-(sh c)))) := (hk8.trans (KeepsOthers.drew _)).trans (KeepsOthers.setCell _ _ _)
              clear u2 u3 u4 u5 u6 HV HA2 hM2 hs8 hk8 Y2
              generalize V.drew = Z2 at *
              repeat still_step
              refine wpStill_nil ?_
              clear X0 X1 X2 X5 X6
              go_wp2
              exact ⟨hk7.from _, hk7.walks, by simp only [Int.toNat_natCast]; rw [hsn.out]; exact HV2.out, HA3.out, hM3, g4, g5, g6⟩
            case done =>
              rintro E W hE ⟨g1, _, _, g4, _, _⟩ hD
              have hne : E ∉ rs := fun hm => by have := g4 E hm; omega
              have hzE : w.heap.size + 5 ≤ W.heap.size := by have := (Array.getElem?_eq_some_iff.1 hD).1; omega
              have e9 : Pl.sprM sh (⟨(qn : Int), t, true⟩ : Pl.St).p.toNat (⟨(qn : Int), t, true⟩ : Pl.St).m (Pl.spr s sh (fun _ _ => 0) (Y.take j)) (Pl.mvs s t (s * s)) = Pl.spr s sh (fun _ _ => 0) (Y.take (j + 1)) := by rw [htk.out, Pl.spr_snoc]
              have g1' := g1
              rw [e9] at g1'
              have HE := Lib.hid (g1'.mark (E := E) (by omega) hD)
              clear g1 g1' HS2 hS2 hMK e9
              gi_wp2
              refine hK.out _ _ (Handed.intro (n - (j + 1)) (by omega) (hJ.out _ _ _ ?_))
              exact ⟨_, _, _, _, _, _, _, _, _, _, _, _, _, _, _, _, _, _, _, _, _, _, _, _, _, _, _, _, _, _, _, _, _, _, _, _, _, _, _, _, _, _, _, j + 1, E :: rs, ⟨by omega, rfl, Lib.hid (List.nodup_cons.2 ⟨hne, HN.out⟩), HE, hzE⟩, rfl⟩
        · obtain rfl : j = n := by omega
          have hi5 : ¬ (j : Int) < (j : Int) := by omega
          have hall : Y.take j = Y := List.take_of_length_le (by have := hn.out; omega)
          rw [hall] at HS
          clear hall
          gi_wp2
          rw [← hQ0.out]
          refine hK0.out _ _ ?_
          clear hK0 hQ0 hJ hK
          have k3 := HS.out.k3
          gi_wp2
          refine leaves_marks rs wq HN.out (fun r hr => (HS.out.mks r hr).2) ?_
          have fb := freed_but rs wq
          have no : ∀ b, (∃ T m f, wq.rowIs b T m f) → ¬ b ∈ rs := fun b ⟨T, m, f, hr⟩ hm => by
            obtain ⟨cs, h1, _⟩ := hr
            have h2 := (HS.out.mks b hm).2
            rw [h1] at h2
            cases h2
          refine ⟨.slice (some ⟨w.heap.size + 1 + 1 + 1, 0, none⟩) k k, by simp [results, Tryd.results58, go_sem], w.heap.size + 1 + 1 + 1, _, rb, rfl, Lib.hid (HS.out.mx.but fb (no _ ⟨_, _, _, HS.out.mx.p⟩) (fun i hi => no _ ⟨_, _, _, HS.out.mx.r i hi⟩)), by omega, ?_⟩
          exact HS.out.b.trans (fb.below HS.out.b.size (fun g hg hm => by have := (HS.out.mks g hm).1; omega))
end Go.Proofs.YtidcedilfhmllaaDoor

/- Contracts of package plate: Shape of a valid plate, with valid heights. -/
namespace Pl
/-- the heights of the free cells -/
def shB (ev : List Nat) (hs : List Int) (k : Nat) : Nat → Int := (List.range k).foldl (fun f i => fun c => if c = ev.getD i 0 then hs.getD i 0 else f c) (fun _ => 0)
theorem shB_succ (ev : List Nat) (hs : List Int) (k : Nat) : shB ev hs (k + 1) = fun c => if c = ev.getD k 0 then hs.getD k 0 else shB ev hs k c := by
  unfold shB
  rw [List.range_succ, List.foldl_append]
  rfl
/-- .. and those that follow from them -/
def shW (lf : Nat → Nat) (wf : Nat → Int) (f0 : Nat → Int) (k : Nat) : Nat → Int := (List.range k).foldl (fun f i => fun c => if c = i then wf i * f (lf i) else f c) f0
theorem shW_succ (lf : Nat → Nat) (wf : Nat → Int) (f0 : Nat → Int) (k : Nat) : shW lf wf f0 (k + 1) = fun c => if c = k then wf k * shW lf wf f0 k (lf k) else shW lf wf f0 k c := by
  unfold shW
  rw [List.range_succ, List.foldl_append]
  rfl
/-- Shape's shape -/
def shp (N : Nat) (lf : Nat → Nat) (wf : Nat → Int) (hs : List Int) : Nat → Int := shW lf wf (shB (evs N lf wf) hs (evs N lf wf).length) N
def Bd40 (f : Nat → Int) : Prop := ∀ c, -1099511627776 ≤ f c ∧ f c ≤ 1099511627776
theorem shB_bd {hs : List Int} (h : ∀ z ∈ hs, -1099511627776 ≤ z ∧ z ≤ 1099511627776) (ev : List Nat) : ∀ k, Bd40 (shB ev hs k)
  | 0 => fun c => by
    show -1099511627776 ≤ (0 : Int) ∧ (0 : Int) ≤ 1099511627776
    omega
  | k + 1 => fun c => by
    rw [shB_succ]
    simp only
    split
    · by_cases hk : k < hs.length
      · rw [List.getD, List.getElem?_eq_getElem hk]
        exact h _ (List.getElem_mem hk)
      · rw [List.getD, List.getElem?_eq_none (by omega)]
        show -1099511627776 ≤ (0 : Int) ∧ (0 : Int) ≤ 1099511627776
        omega
    · exact shB_bd h ev k c
theorem tri_bd40 {a b : Int} (ha : a = 1 ∨ a = -1 ∨ a = 0) (hb : -1099511627776 ≤ b ∧ b ≤ 1099511627776) : -1099511627776 ≤ a * b ∧ a * b ≤ 1099511627776 := by
  rcases ha with rfl | rfl | rfl
  · rw [Int.one_mul]; exact hb
  · rw [Int.neg_mul, Int.one_mul]; omega
  · rw [Int.zero_mul]; omega
theorem shW_bd {lf : Nat → Nat} {wf : Nat → Int} {f0 : Nat → Int} {N : Nat} (hw : ∀ k, k < N → wf k = 1 ∨ wf k = -1 ∨ wf k = 0) (h0 : Bd40 f0) : ∀ k, k ≤ N → Bd40 (shW lf wf f0 k)
  | 0, _ => h0
  | k + 1, hk => fun c => by
    have ih := shW_bd (lf := lf) hw h0 k (by omega)
    rw [shW_succ]
    simp only
    split
    · exact tri_bd40 (hw k (by omega)) (ih _)
    · exact ih c
end Pl
namespace Go.Proofs.YtidcedilfhmllaaDoor
open Go.RowKit

theorem rowF_made (W : World) (N : Nat) : RowF (W.alloc (.cells (madeCells #[.int .i64 0] N) 3)) W.heap.size N (fun _ => 0) := fun k hk =>
  ⟨(rowIs_made W _ N _).cell (i := k) hk, (rowIs_made W _ N _).frozen k⟩
theorem ns_of_owns {w : World} {B : Nat} {v : Value} {l : List Nat} (h : w.ownsRow B 3 1 v l.length (l.map nV)) : ∃ a cap, v = .slice a l.length cap ∧ NsAt w a (l.map fun x : Nat => (x : Int)) := by
  obtain ⟨_, h2⟩ := h
  rcases h2 with ⟨hv, h0⟩ | ⟨g, cap, cur, hv, hb, hg, hle, hcm, hs, ht⟩
  · exact ⟨none, 0, by rw [hv, h0], fun k hk => by rw [List.length_map] at hk; omega⟩
  · refine ⟨_, cap, hv, fun k hk => ⟨_, rfl, ?_⟩⟩
    rw [List.length_map] at hk
    have e1 : (⟨g, 0, none⟩ : Addr).add k = ⟨g, k, none⟩ := by unfold Addr.add; split <;> simp_all
    have h1 : (List.take (l.length * 1) cur.toList)[k]? = (l.map nV)[k]? := by rw [ht]
    rw [List.getElem?_take_of_lt (by omega), Array.getElem?_toList, List.getElem?_map, List.getElem?_eq_getElem hk] at h1
    rw [e1]
    simp [World.cell?, hg, h1, List.getD, List.getElem?_eq_getElem hk, nV]

/-- what Shape leaves -/
def ShPost (w : World) (N mm : Nat) (P : Nat → Nat → Int) (e : Ending) (w' : World) : Prop :=
  ∃ pb B rb, e = .returned (.tuple #[.slice (some ⟨pb, 0, none⟩) mm mm, .int .i64 0]) ∧ Hid (MX B w' pb mm N mm rb P) ∧ w.heap.size ≤ pb ∧ Below w.heap.size w w'

set_option maxRecDepth 100000 in
set_option maxHeartbeats 8000000 in
theorem pShape_ok (s : Nat) (mm : Nat) (a : Option Addr) (q cap : Nat) (L : List Pl.Wk) (hq : L.length = q) (p : Int) (hV : Pl.VS s (mm : Int) L p) (x : Option Addr) (ch : Nat) (hs : List Int) (hl : Nat) (hhl : Hid (hs.length = hl)) (hle : Hid ((Pl.evs (s * s) (Pl.lsF (Pl.clsL s (Pl.signs L p)).1) (Pl.wsF (Pl.clsL s (Pl.signs L p)).2)).length = hl)) (hhf : Hid (∀ z ∈ hs, -1099511627776 ≤ z ∧ z ≤ 1099511627776)) (w : World) (hL : Hid (WksAt w a L)) (hH : Hid (NsAt w x hs)) :
    Calls Tryd.prog 23 #[.agg #[.int .i64 (s : Int), .int .i64 (mm : Int), .slice a q cap], .int .i64 p, .slice x hl ch] w (ShPost w (s * s) mm (Pl.spr s (Pl.shp (s * s) (Pl.lsF (Pl.clsL s (Pl.signs L p)).1) (Pl.wsF (Pl.clsL s (Pl.signs L p)).2) hs) (fun _ _ => 0) ((Pl.ways L p).map Prod.fst))) := by
  have hCL := Pl.clsL_CL hV.s6 hV.sg
  have hs3 : s * s ≤ 36 := Nat.mul_le_mul hV.s6 hV.s6
  have hs1 : 1 ≤ s * s := Nat.mul_le_mul hV.s1 hV.s1
  have HC := Lib.hid (cp_ok hV (cap := cap) hq hL)
  have HW := Lib.hid (wf_ok hV (cap := cap) hq hL)
  have hsl := Pl.signs_len L p
  have HF := Lib.hid (fun (W : World) (a3 : Option Addr) (c3 : Nat) (hG : Hid (SgsAt W a3 (Pl.signs L p))) => classes_any s hV.s1 hV.s6 a3 (Pl.signs L p).length c3 (Pl.signs L p) (Lib.hid rfl) (by omega) (Lib.hid hV.sg) W hG)
  obtain ⟨N, hN⟩ : ∃ N, s * s = N := ⟨_, rfl⟩
  rw [hN] at HF hCL hs3 hs1 hle
  rw [hN]
  obtain ⟨QL, hQL⟩ : ∃ QL, (Pl.clsL s (Pl.signs L p)) = QL := ⟨_, rfl⟩
  rw [hQL] at HF hCL hle
  rw [hQL]
  replace hCL := Lib.hid hCL
  clear hQL
  have hmk1 := Lib.hid (mkInts N (by omega))
  have hhn : hl ≤ 36 := by
    have := evs_le N (Pl.lsF QL.1) (Pl.wsF QL.2)
    have := hle.out
    omega
  go_enter Tryd.func23, Tryd.ntmps23
  go_wp2_with fail
  refine (HC.out _ (by repeat (first | with_reducible exact Below.refl _ _ | with_reducible assumption | refine below_drewN ?_ _ | refine Below.drew ?_ | refine Below.alloc ?_ (by first | (simp; done) | (simp; omega) | omega) _ | refine Below.setCell ?_ (by first | (simp; done) | (simp; omega) | omega) _ | refine Below.trans ?_ (Below.mono (by assumption) (by first | (simp; done) | (simp; omega) | omega))))).mono ?_
  rintro e w1 ⟨rfl, hb1⟩
  have k0 : w1.cell? ⟨w.heap.size, 0, none⟩ = some (.int .i64 (s : Int)) := kept1 (by simp [go_sem]) hb1
  have k1 : w1.cell? ⟨w.heap.size, 1, none⟩ = some (.int .i64 (mm : Int)) := kept1 (by simp [go_sem]) hb1
  have k2 : w1.cell? ⟨w.heap.size, 2, none⟩ = some (.slice a q cap) := kept1 (by simp [go_sem]) hb1
  have hbw : Below w.heap.size w w1 := (by repeat (first | with_reducible exact Below.refl _ _ | with_reducible assumption | refine below_drewN ?_ _ | refine Below.drew ?_ | refine Below.alloc ?_ (by first | (simp; done) | (simp; omega) | omega) _ | refine Below.setCell ?_ (by first | (simp; done) | (simp; omega) | omega) _ | refine Below.trans ?_ (Below.mono (by assumption) (by first | (simp; done) | (simp; omega) | omega))))
  clear hb1 HC
  go_wp2_with fail
  refine (HW.out _ hbw).mono ?_
  rintro e w2 ⟨a1, n1, c1, mb, f, rfl, hn1, hS, hM, hA, hb2⟩
  replace hn1 := Lib.hid hn1
  replace k0 := kept1 k0 hb2
  replace k1 := kept1 k1 hb2
  replace k2 := kept1 k2 hb2
  have hbw2 := hbw.trans (hb2.mono hbw.size)
  clear hbw hb2 HW
  go_upto_region 5 with fail
  have hba := below_alloc (Below.refl w2.heap.size w2) (Obj.cells #[.slice a1 n1 c1, .map (some mb)] 92)
  have z0 : (w2.alloc (Obj.cells #[.slice a1 n1 c1, .map (some mb)] 92)).cell? ⟨w2.heap.size, 0, none⟩ = some (.slice a1 n1 c1) := by simp [go_sem]
  have z1 : (w2.alloc (Obj.cells #[.slice a1 n1 c1, .map (some mb)] 92)).cell? ⟨w2.heap.size, 1, none⟩ = some (.map (some mb)) := by simp [go_sem]
  replace k0 := kept1 k0 hba
  replace k1 := kept1 k1 hba
  replace k2 := kept1 k2 hba
  have hS1 := Lib.hid (hS.out.below hba)
  have hbw3 := hbw2.trans (hba.mono hbw2.size)
  have HS0 := Lib.hid (fun (W : World) (hb : Below w2.heap.size w2 W) => signs_after hV hn1.out hS.out hM.out hA.out (cap := c1) W hb)
  have HS1 := Lib.hid (HS0.out _ hba.drew)
  clear hba hM hA hS HS0
  generalize w2.alloc (Obj.cells #[.slice a1 n1 c1, .map (some mb)] 92) = X at *
  have S0 : X.drew.cell? ⟨w.heap.size, 0, none⟩ = some (.int .i64 (s : Int)) ∧ X.drew.cell? ⟨w2.heap.size, 0, none⟩ = some (.slice a1 n1 c1) ∧ X.drew.cell? ⟨w2.heap.size, 1, none⟩ = some (.map (some mb)) := ⟨k0, z0, z1⟩
  refine region_head_held 9 (fun w' => w'.cell? ⟨w.heap.size, 0, none⟩ = some (.int .i64 (s : Int)) ∧ w'.cell? ⟨w2.heap.size, 0, none⟩ = some (.slice a1 n1 c1) ∧ w'.cell? ⟨w2.heap.size, 1, none⟩ = some (.map (some mb))) (by kernel_rfl) (by kernel_rfl) S0 (fun hHeld => ?_)
  simp only [List.take_succ_cons, List.take_zero, List.drop_succ_cons, List.drop_zero]
  refine wpAnyH_take (i := 0) (v := ?_) rfl (by kernel_rfl) (by kernel_rfl) (by kernel_rfl) (fun _ _ _ h => h) (Or.inl ⟨by rfl, ?_⟩) (by assumption) ?_
  rotate_left 1
  · (intro w hSw; (try dsimp only at hSw); go_simp; all_goals with_reducible rfl)
  try simp only [Act.put, List.setIfInBounds_toArray, List.set_cons_zero, List.set_cons_succ]
  refine wpAnyH_take (i := 1) (v := ?_) rfl (by kernel_rfl) (by kernel_rfl) (by kernel_rfl) (fun _ _ _ h => h) (Or.inl ⟨by rfl, ?_⟩) (by assumption) ?_
  rotate_left 1
  · (intro w hSw; (try dsimp only at hSw); go_simp; all_goals with_reducible rfl)
  try simp only [Act.put, List.setIfInBounds_toArray, List.set_cons_zero, List.set_cons_succ]
  refine wpAnyH_take (i := 2) (v := ?_) rfl (by kernel_rfl) (by kernel_rfl) (by kernel_rfl) (fun _ _ _ h => h) (Or.inl ⟨by rfl, ?_⟩) (by assumption) ?_
  rotate_left 1
  · (intro w hSw; (try dsimp only at hSw); go_simp; all_goals with_reducible rfl)
  try simp only [Act.put, List.setIfInBounds_toArray, List.set_cons_zero, List.set_cons_succ]
  simp only [List.getElem_toArray, List.getElem_cons_succ, List.getElem_cons_zero, Act.put, List.setIfInBounds_toArray, List.set_cons_zero, List.set_cons_succ]
  refine wpAnyH_ready (rs := [3]) (by kernel_rfl) (by simp) ?_
  refine AllReadyH.cons rfl (fun K hK => ?_) ?_
  rotate_left 1
  · exact AllReadyH.nil
  go_simp
  with_reducible refine (HS1.out).mono ?_
  rintro e w3 ⟨v, he, hO⟩
  subst he
  have S3 : w3.cell? ⟨w.heap.size, 0, none⟩ = some (.int .i64 (s : Int)) ∧ w3.cell? ⟨w2.heap.size, 0, none⟩ = some (.slice a1 n1 c1) ∧ w3.cell? ⟨w2.heap.size, 1, none⟩ = some (.map (some mb)) := ⟨kept1 hHeld.1 hO.out.b, kept1 hHeld.2.1 hO.out.b, kept1 hHeld.2.2 hO.out.b⟩
  refine hK.out _ _ S3 (fun hHeld3 => ?_)
  clear hK K HS1
  try simp only [List.getElem_toArray, List.getElem_cons_succ, List.getElem_cons_zero, Act.put, List.setIfInBounds_toArray, List.set_cons_zero, List.set_cons_succ]
  obtain ⟨a3, c3, rfl, hG⟩ := hO.out.at
  replace k1 := kept1 (W := X.drew) k1 hO.out.b
  replace k2 := kept1 (W := X.drew) k2 hO.out.b
  have hS3 := Lib.hid (StsAt.below (w := X.drew) hS1.out hO.out.b)
  have hbw4 : Below w.heap.size w w3 := hbw3.drew.trans (hO.out.b.mono (by have := hbw3.size; exact this))
  replace hG := Lib.hid hG
  clear hO hHeld hS1
  refine wpAnyH_ready (rs := [4]) (by kernel_rfl) (by simp) ?_
  refine AllReadyH.cons rfl (fun K hK => ?_) ?_
  rotate_left 1
  · exact AllReadyH.nil
  go_simp
  with_reducible refine (HF.out w3 a3 c3 hG).mono ?_
  rintro e w4 ⟨lb, wb, cl, cw, he, hl4, hw4, _, _, _, hb4⟩
  subst he
  have S4 : w4.cell? ⟨w.heap.size, 0, none⟩ = some (.int .i64 (s : Int)) ∧ w4.cell? ⟨w2.heap.size, 0, none⟩ = some (.slice a1 n1 c1) ∧ w4.cell? ⟨w2.heap.size, 1, none⟩ = some (.map (some mb)) := ⟨kept1 S3.1 hb4, kept1 S3.2.1 hb4, kept1 S3.2.2 hb4⟩
  refine hK.out _ _ S4 (fun hHeld4 => ?_)
  clear hK K HF
  try simp only [List.getElem_toArray, List.getElem_cons_succ, List.getElem_cons_zero, Act.put, List.setIfInBounds_toArray, List.set_cons_zero, List.set_cons_succ]
  refine wpAnyH_take (i := 5) (v := ?_) rfl (by kernel_rfl) (by kernel_rfl) (by kernel_rfl) (fun _ _ _ h => h) (Or.inl ⟨by rfl, ?_⟩) (by assumption) ?_
  rotate_left 1
  · (intro w hSw; (try dsimp only at hSw); go_simp; all_goals with_reducible rfl)
  try simp only [Act.put, List.setIfInBounds_toArray, List.set_cons_zero, List.set_cons_succ]
  refine wpAnyH_take (i := 6) (v := ?_) rfl (by kernel_rfl) (by kernel_rfl) (by kernel_rfl) (fun _ _ _ h => h) (Or.inl ⟨by rfl, ?_⟩) (by assumption) ?_
  rotate_left 1
  · (intro w hSw; (try dsimp only at hSw); go_simp; all_goals with_reducible rfl)
  try simp only [Act.put, List.setIfInBounds_toArray, List.set_cons_zero, List.set_cons_succ]
  refine wpAnyH_take (i := 7) (v := ?_) rfl (by kernel_rfl) (by kernel_rfl) (by kernel_rfl) (fun _ _ _ h => h) (Or.inl ⟨by rfl, ?_⟩) (by assumption) ?_
  rotate_left 1
  · (intro w hSw; (try dsimp only at hSw); go_simp; all_goals with_reducible rfl)
  try simp only [Act.put, List.setIfInBounds_toArray, List.set_cons_zero, List.set_cons_succ]
  refine wpAnyH_take (i := 8) (v := ?_) rfl (by kernel_rfl) (by kernel_rfl) (by kernel_rfl) (fun _ _ _ h => h) (Or.inl ⟨by rfl, ?_⟩) (by assumption) ?_
  rotate_left 1
  · (intro w hSw; (try dsimp only at hSw); go_simp; all_goals with_reducible rfl)
  try simp only [Act.put, List.setIfInBounds_toArray, List.set_cons_zero, List.set_cons_succ]
  simp only [List.getElem_toArray, List.getElem_cons_succ, List.getElem_cons_zero, Act.put, List.setIfInBounds_toArray, List.set_cons_zero, List.set_cons_succ]
  refine wpAnyH_done (by kernel_rfl) ?_ _
  show wpList _ _ _ _ _ _
  replace k0 := S4.1
  replace z0 := S4.2.1
  replace z1 := S4.2.2
  replace k1 := kept1 k1 hb4
  replace k2 := kept1 k2 hb4
  have hS4 := Lib.hid (hS3.out.below hb4)
  have hbw5 := hbw4.trans (hb4.mono hbw4.size)
  clear S0 S3 S4 hHeld3 hHeld4 hb4 hG hS3 hbw3 hbw4
  obtain ⟨ev, hev⟩ : ∃ ev, Pl.evs N (Pl.lsF QL.1) (Pl.wsF QL.2) = ev := ⟨_, rfl⟩
  have HE := Lib.hid (fun (W : World) (hb : Below w4.heap.size w4 W) => evenClasses_any lb wb N cl cw _ _ hs3 W (Lib.hid (hl4.out.below hb)) (Lib.hid (hw4.out.below hb)))
  rw [hev] at HE hle
  go_wp2_with fail
  refine (HE.out _ (Below.refl _ _)).mono ?_
  rintro e w5 ⟨v, rfl, ho, hb5⟩
  obtain ⟨ae, ce, rfl, hNe⟩ := ns_of_owns ho.out
  have HV := Lib.hid (fun (W : World) (hb : Below w.heap.size w W) => pHeights_any x ch hs (hl : Int) hl hhl (by omega) W (Lib.hid (hH.out.below hb)))
  have hval : (decide ((hl : Int) = (hl : Int)) && !hs.any Pl.hfar) = true := by
    simp only [decide_true, Bool.true_and, Bool.not_eq_true', List.any_eq_false]
    intro z hz
    have := hhf.out z hz
    unfold Pl.hfar
    simp only [decide_eq_true_eq]
    omega
  rw [hval] at HV
  clear hval
  rw [hle.out]
  have hbw6 := hbw5.trans (hb5.mono hbw5.size)
  replace k0 := kept1 k0 hb5
  replace k1 := kept1 k1 hb5
  replace k2 := kept1 k2 hb5
  replace z0 := kept1 z0 hb5
  replace z1 := kept1 z1 hb5
  have hS5 := Lib.hid (hS4.out.below hb5)
  have hl5 := Lib.hid (hl4.out.below hb5)
  have hw5 := Lib.hid (hw4.out.below hb5)
  replace hNe := Lib.hid hNe
  clear ho hb5 hbw5 hS4 hl4 hw4 HE
  go_wp2_with fail
  refine (HV.out _ hbw6).mono ?_
  rintro e w6 ⟨rfl, rfl⟩
  clear HV
  go_upto_region 9 with fail
  have hmk := hmk1.out
  have hbm := below_alloc (Below.refl w6.heap.size w6) (Obj.cells (madeCells #[.int .i64 0] N) 3)
  have hRm := Lib.hid (rowF_made w6 N)
  clear hmk1
  go_wp2
  clear hmk
  generalize w6.alloc (Obj.cells (madeCells #[.int .i64 0] N) 3) = X6 at *
  go_loopw [48] (fun iv wr => ∃ k : Nat, k ≤ hl ∧ iv = .int .i64 (k : Int) ∧ Hid (RowF wr w6.heap.size N (Pl.shB ev hs k)) ∧ Below w6.heap.size w6 wr) (fun iv _ => hl - (RowKit.intOf iv).toNat)
  case atStart => exact ⟨0, Nat.zero_le _, rfl, hRm, hbm⟩
  case round =>
    clear hRm hbm
    clear X6
    obtain ⟨k, hk, rfl, hr, hb⟩ := hrel
    by_cases hlt : k < hl
    · have i1 : (k : Int) < (hl : Int) := by omega
      have i2 : (0 : Int) ≤ (k : Int) := by omega
      have hke : k < ev.length := by have := hle.out; omega
      have hkh : k < hs.length := by have := hhl.out; omega
      obtain ⟨y, hy, hc⟩ := hNe.out k (by rw [List.length_map]; exact hke)
      obtain ⟨y2, hy2, hc2⟩ := hH.out k hkh
      have hg : (ev.map fun x : Nat => (x : Int)).getD k 0 = ((ev.getD k 0 : Nat) : Int) := by
        simp [List.getD, List.getElem?_eq_getElem hke]
      rw [hg] at hc
      clear hg
      have hmem : ev.getD k 0 ∈ ev := by rw [List.getD, List.getElem?_eq_getElem hke]; exact List.getElem_mem hke
      have hcn : ev.getD k 0 < N := by
        rw [← hev] at hmem ⊢
        exact (Pl.mem_evs.1 hmem).1
      have hst := Lib.hid (Pl.shB_succ ev hs k)
      obtain ⟨c0, hc0⟩ : ∃ c0, ev.getD k 0 = c0 := ⟨_, rfl⟩
      obtain ⟨h0, hh0⟩ : ∃ h0, hs.getD k 0 = h0 := ⟨_, rfl⟩
      rw [hc0] at hc hcn hst
      rw [hh0] at hc2 hst
      replace hc := kept1 hc hb
      replace hc2 := kept1 hc2 (hbw6.trans (hb.mono hbw6.size))
      have x3 := (hr.out c0 hcn).1
      have x4 := (hr.out c0 hcn).2
      have i3 : (0 : Int) ≤ (c0 : Int) := by omega
      have i4 : (c0 : Int) < (N : Int) := by omega
      have hn9 : Hid (RowF (wr.setCell ⟨w6.heap.size, c0, none⟩ (.int .i64 h0)) w6.heap.size N (Pl.shB ev hs (k + 1))) := Lib.hid (by rw [hst.out]; exact hr.out.set c0 h0)
      have hb9 : Below w6.heap.size w6 (wr.setCell ⟨w6.heap.size, c0, none⟩ (.int .i64 h0)) := hb.setCell (Nat.le_refl _) _
      subst hy
      subst hy2
      clear hr hb hst hmem hc0 hh0 k0 k1 k2 z0 z1
      go_wp2
      go_roundw
      case rel => exact ⟨k + 1, by omega, by go_num, hn9, hb9⟩
      case measure => first | (simp [RowKit.intOf]; done) | (simp [RowKit.intOf]; omega) | omega
    · obtain rfl : k = hl := by omega
      have i1 : ¬ (k : Int) < (k : Int) := by omega
      go_wp2
      have hbd0 : Hid (Pl.Bd40 (Pl.shB ev hs k)) := Lib.hid (Pl.shB_bd hhf.out ev k)
      go_loopw [63] (fun iv wr => ∃ j : Nat, j ≤ N ∧ iv = .int .i64 (j : Int) ∧ Hid (RowF wr w6.heap.size N (Pl.shW (Pl.lsF QL.1) (Pl.wsF QL.2) (Pl.shB ev hs k) j)) ∧ Below w6.heap.size w6 wr) (fun iv _ => N - (RowKit.intOf iv).toNat)
      case atStart => exact ⟨0, Nat.zero_le _, rfl, hr, hb⟩
      case round =>
        clear hr hb
        obtain ⟨j, hj, rfl, hr, hb⟩ := hrel
        by_cases hlt2 : j < N
        · have i2 : (j : Int) < (N : Int) := by omega
          have i3 : (0 : Int) ≤ (j : Int) := by omega
          have hcl := ((hl5.out.below hb) j hlt2).1
          have hcw := ((hw5.out.below hb) j hlt2).1
          have hlj := hCL.out.lt j hlt2
          have htri := hCL.out.tri j hlt2
          have hbd := Pl.shW_bd (lf := Pl.lsF QL.1) hCL.out.tri hbd0.out j (by omega) (Pl.lsF QL.1 j)
          have hst := Lib.hid (Pl.shW_succ (Pl.lsF QL.1) (Pl.wsF QL.2) (Pl.shB ev hs k) j)
          obtain ⟨u, hu⟩ : ∃ u, Pl.lsF QL.1 j = u := ⟨_, rfl⟩
          obtain ⟨v, hv⟩ : ∃ v, Pl.wsF QL.2 j = v := ⟨_, rfl⟩
          rw [hu] at hcl hlj hbd hst
          rw [hv] at hcw htri hst
          have x3 := (hr.out u hlj).1
          have x5 := (hr.out j hlt2).1
          have x6 := (hr.out j hlt2).2
          obtain ⟨fu, hfu⟩ : ∃ fu, Pl.shW (Pl.lsF QL.1) (Pl.wsF QL.2) (Pl.shB ev hs k) j u = fu := ⟨_, rfl⟩
          rw [hfu] at x3 hbd hst
          have hmb := Pl.tri_bd40 htri hbd
          have hwm : IntKind.i64.wrap (v * fu) = v * fu := by rw [IntWalk.i64_left]; exact IntWalk.wrap64_in _ (by omega)
          have i4 : (0 : Int) ≤ (u : Int) := by omega
          have i5 : (u : Int) < (N : Int) := by omega
          have hn9 : Hid (RowF (wr.setCell ⟨w6.heap.size, j, none⟩ (.int .i64 (v * fu))) w6.heap.size N (Pl.shW (Pl.lsF QL.1) (Pl.wsF QL.2) (Pl.shB ev hs k) (j + 1))) := Lib.hid (by rw [hst.out]; exact hr.out.set j (v * fu))
          have hb9 : Below w6.heap.size w6 (wr.setCell ⟨w6.heap.size, j, none⟩ (.int .i64 (v * fu))) := hb.setCell (Nat.le_refl _) _
          clear hr hb hst hu hv hfu hbd htri hmb k0 k1 k2 z0 z1
          go_wp2
          go_roundw
          case rel => exact ⟨j + 1, by omega, by go_num, hn9, hb9⟩
          case measure => first | (simp [RowKit.intOf]; done) | (simp [RowKit.intOf]; omega) | omega
        · obtain rfl : j = N := by omega
          have i2 : ¬ (j : Int) < (j : Int) := by omega
          have hB := Pl.ways_ok hV.m6 hV.ok ⟨hV.p0, hV.pm⟩
          have hbds := Pl.shW_bd (lf := Pl.lsF QL.1) hCL.out.tri hbd0.out j (Nat.le_refl _)
          have HSp := Lib.hid (spread_any s hV.s1 hV.s6 mm (by have := hV.m6; omega) a q cap a1 n1 c1 mb ((Pl.ways L p).map Prod.fst) (Lib.hid (by rw [List.length_map, hn1.out])) (by rw [hn1.out]; exact Pl.bf_len hV.m6 hV.ok ⟨hV.p0, hV.pm⟩ hB) (Lib.hid (fun y hy => by
            obtain ⟨e, he, rfl⟩ := List.mem_map.1 hy
            exact Pl.bf_in hV.ok ⟨hV.p0, hV.pm⟩ hB he)) w6.heap.size j j hN _ (Lib.hid (fun c _ => by have := hbds c; omega)) wr (Lib.hid (hS5.out.below hb)) hr)
          replace k0 := kept1 k0 hb
          replace k1 := kept1 k1 hb
          replace k2 := kept1 k2 hb
          replace z0 := kept1 z0 hb
          replace z1 := kept1 z1 hb
          have hbf := hbw6.trans (hb.mono hbw6.size)
          have hshp : Pl.shp j (Pl.lsF QL.1) (Pl.wsF QL.2) hs = Pl.shW (Pl.lsF QL.1) (Pl.wsF QL.2) (Pl.shB ev hs k) j := by
            unfold Pl.shp
            rw [hev, hle.out]
          clear hr hb hB hbds
          go_wp2_with fail
          refine HSp.out.mono ?_
          rintro e w9 ⟨pb, B, rb, rfl, hMX, hpb, hb9⟩
          have hbz := hbf.trans (hb9.mono hbf.size)
          have hpz := Nat.le_trans hbf.size hpb
          rw [← hshp] at hMX
          clear HSp hbf hb9 k0 k1 k2 z0 z1
          go_wp2
          go_ret2
          exact ⟨pb, B, rb, rfl, hMX, hpz, hbz⟩
end Go.Proofs.YtidcedilfhmllaaDoor

/- Contracts of package plate: CheckProof of a valid plate. -/
namespace Pl
/-- the signs of walks, if all of them are closed walks -/
def folS (L : List Wk) (p : Int) : List (List Int) → List (Nat × Bool) → Option (List (Nat × Bool))
  | [], acc => some acc
  | w :: r, acc => match runs (adv L) ⟨p, 0, false⟩ w with
    | some y => if y.p = p then folS L p r (acc ++ [(y.t, y.m)]) else none
    | none => none
/-- CheckProof, behind its first checks -/
def ckp (s : Nat) (L : List Wk) (p : Int) (LS : List (List Int)) : Int := if stc L.length LS ≠ 0 then stc L.length LS else match folS L p LS [] with
  | some G => if frd s G == 0 then 0 else 8
  | none => 8
end Pl
namespace Go.Proofs.YtidcedilfhmllaaDoor
open Go.RowKit

set_option maxRecDepth 100000 in
set_option maxHeartbeats 8000000 in
theorem pCheckProof_ok (s : Nat) (m : Int) (a : Option Addr) (q cap : Nat) (L : List Pl.Wk) (hq : L.length = q) (p : Int) (hV : Pl.VS s m L p) (x : Option Addr) (n c : Nat) (LS : List (List Int)) (hn : Hid (LS.length = n)) (hn2 : n ≤ 40)
    (hi : Hid (∀ l ∈ LS, ∀ g ∈ l, -9223372036854775808 ≤ g ∧ g ≤ 9223372036854775807)) (w : World) (hL : Hid (WksAt w a L)) (hl : Hid (LnAt w x LS)) :
    Calls Tryd.prog 40 #[.agg #[.int .i64 (s : Int), .int .i64 m, .slice a q cap], .int .i64 p, .slice x n c] w fun e w' => e = .returned (.int .i64 (Pl.ckp s L p LS)) ∧ Below w.heap.size w w' := by
  obtain ⟨i0, hi0, hz0, hz1, hz2⟩ := info_parts infoSg
  have hq2 : q ≤ 16 := by rw [← hq]; exact hV.q
  have HC := Lib.hid (cp_ok hV (cap := cap) hq hL)
  have HS := Lib.hid (fun (W : World) (hb : Below w.heap.size w W) => pSteps_any (s : Int) m a q cap hq2 x n c LS hn (by omega) hi W (Lib.hid (hl.out.below hb)))
  obtain ⟨R, hR⟩ : ∃ R, Pl.ckp s L p LS = R := ⟨_, rfl⟩
  rw [hR]
  unfold Pl.ckp at hR
  rw [hq] at hR
  have hok := fun h => Pl.stc_ok (q := q) (LS := LS) h
  obtain ⟨es, hes⟩ : ∃ es, Pl.stc q LS = es := ⟨_, rfl⟩
  rw [hes] at hR HS hok
  clear hes
  replace hR := Lib.hid hR
  replace hok := Lib.hid hok
  go_enter Tryd.func40, Tryd.ntmps40
  go_wp2_with fail
  refine (HC.out _ (by repeat (first | with_reducible exact Below.refl _ _ | with_reducible assumption | refine below_drewN ?_ _ | refine Below.drew ?_ | refine Below.alloc ?_ (by first | (simp; done) | (simp; omega) | omega) _ | refine Below.setCell ?_ (by first | (simp; done) | (simp; omega) | omega) _ | refine Below.trans ?_ (Below.mono (by assumption) (by first | (simp; done) | (simp; omega) | omega))))).mono ?_
  rintro e w1 ⟨rfl, hb1⟩
  have k0 : w1.cell? ⟨w.heap.size, 0, none⟩ = some (.int .i64 (s : Int)) := kept1 (by simp [go_sem]) hb1
  have k1 : w1.cell? ⟨w.heap.size, 1, none⟩ = some (.int .i64 m) := kept1 (by simp [go_sem]) hb1
  have k2 : w1.cell? ⟨w.heap.size, 2, none⟩ = some (.slice a q cap) := kept1 (by simp [go_sem]) hb1
  have hbw : Below w.heap.size w w1 := (by repeat (first | with_reducible exact Below.refl _ _ | with_reducible assumption | refine below_drewN ?_ _ | refine Below.drew ?_ | refine Below.alloc ?_ (by first | (simp; done) | (simp; omega) | omega) _ | refine Below.setCell ?_ (by first | (simp; done) | (simp; omega) | omega) _ | refine Below.trans ?_ (Below.mono (by assumption) (by first | (simp; done) | (simp; omega) | omega))))
  clear hb1 HC
  have hn40 : ¬ (40 : Int) < (n : Int) := by omega
  go_wp2_with fail
  refine (HS.out _ hbw).mono ?_
  rintro e w2 ⟨rfl, hb2⟩
  replace k0 := kept1 k0 hb2
  replace k1 := kept1 k1 hb2
  replace k2 := kept1 k2 hb2
  have hbw2 := hbw.trans (hb2.mono hbw.size)
  clear HS hbw hb2
  by_cases he0 : es = 0
  · subst he0
    have hst := hok.out rfl
    have hR2 := hR.out
    simp only [ne_eq, not_true_eq_false, if_false] at hR2
    replace hR2 := Lib.hid hR2
    replace hst := Lib.hid hst
    clear hR hok
    go_wp2
    go_loopw [31, 9] (fun iv v wr => ∃ (k : Nat) (G : List (Nat × Bool)), k ≤ n ∧ iv = .int .i64 (k : Int) ∧ wr.cell? ⟨w.heap.size, 0, none⟩ = some (.int .i64 (s : Int)) ∧ wr.cell? ⟨w.heap.size, 1, none⟩ = some (.int .i64 m) ∧ wr.cell? ⟨w.heap.size, 2, none⟩ = some (.slice a q cap) ∧ Hid (wr.ownsRow (w.heap.size + 1) 70 2 v k (sgCells G)) ∧ Hid (G.length = k ∧ (∀ g ∈ G, g.1 < 8) ∧ (match Pl.folS L p (LS.drop k) G with | some G => if Pl.frd s G == 0 then 0 else 8 | none => 8) = R) ∧ Below w.heap.size w wr) (fun iv _ _ => n - (RowKit.intOf iv).toNat)
    case atStart => exact ⟨0, [], Nat.zero_le _, rfl, k0, k1, k2, Lib.hid (World.ownsRow_nil _ _ _ _), Lib.hid ⟨rfl, (fun g hg => by cases hg), hR2.out⟩, hbw2⟩
    case round =>
      clear k0 k1 k2 hbw2 hR2
      obtain ⟨k, G, hk, rfl, k0, k1, k2, ho, hG, hb⟩ := hrel
      by_cases hlt : k < n
      · have i1 : (k : Int) < (n : Int) := by omega
        have i2 : (0 : Int) ≤ (k : Int) := by omega
        have hkl : k < LS.length := by have := hn.out; omega
        obtain ⟨y, b, nn, cc, rfl, hc, hcl, hns⟩ := hl.out k hkl
        have hmem : LS.getD k [] ∈ LS := by rw [List.getD, List.getElem?_eq_getElem hkl]; exact List.getElem_mem hkl
        have hsk := hst.out _ hmem
        have hdr := hG.out.2.2
        rw [drop_ats hkl] at hdr
        unfold Pl.folS at hdr
        have hrn := Pl.runs_in hV.ok (LS.getD k []) ⟨p, 0, false⟩
        obtain ⟨wk, hwk⟩ : ∃ wk, LS.getD k [] = wk := ⟨_, rfl⟩
        rw [hwk] at hcl hns hsk hdr hrn
        replace hc := kept1 hc hb
        have HF := pFollow_any (s : Int) m a q cap L hq hq2 (Lib.hid hV.ok) p b nn cc wk (Lib.hid hcl) (by have := hsk.1; omega) (Lib.hid hsk.2) wr (Lib.hid (hL.out.below hb)) (Lib.hid (hns.below hb))
        have hsz := block_lt_of_cell k0
        simp only at hsz
        have ho2 := ho.out
        clear hmem hwk hns hcl
        cases hrun : Pl.runs (Pl.adv L) ⟨p, 0, false⟩ wk with
        | none =>
          rw [hrun] at HF hdr
          simp only [rsV] at HF hdr
          replace HF := Lib.hid HF
          clear hrn hrun hsk
          subst hdr
          go_wp2_with fail
          refine HF.out.mono ?_
          rintro e w3 ⟨rfl, hb3⟩
          have hbz := hb.trans (hb3.mono hb.size)
          clear HF ho ho2 hG
          go_wp2
          go_ret
          exact ⟨rfl, below_alloc hbz _⟩
        | some z =>
          obtain ⟨zp, zt, zm⟩ := z
          rw [hrun] at HF hdr
          simp only [rsV, stV] at HF hdr
          replace HF := Lib.hid HF
          have hzt : zt < 8 := by
            have h := (hrn _ (fun g hg => by rw [hq]; exact hsk.2 g hg) (by show (0 : Nat) < 8; omega) hrun).1
            exact h
          clear hrn hrun hsk
          by_cases hzp : zp = p
          · rw [if_pos hzp] at hdr
            subst hzp
            have hG2 : Hid ((G ++ [(zt, zm)]).length = k + 1 ∧ (∀ g ∈ G ++ [(zt, zm)], g.1 < 8) ∧ (match Pl.folS L zp (LS.drop (k + 1)) (G ++ [(zt, zm)]) with | some G => if Pl.frd s G == 0 then 0 else 8 | none => 8) = R) := Lib.hid ⟨by rw [List.length_append, hG.out.1]; rfl, fun g hg => by
              rcases List.mem_append.1 hg with hg | hg
              · exact hG.out.2.1 g hg
              · simp at hg; subst hg; exact hzt, hdr⟩
            clear hdr hG hzt
            go_wp2_with fail
            refine HF.out.mono ?_
            rintro e w3 ⟨rfl, hb3⟩
            replace k0 := kept1 k0 hb3
            replace k1 := kept1 k1 hb3
            replace k2 := kept1 k2 hb3
            have hbz := hb.trans (hb3.mono hb.size)
            have ho3 := ownBelow ho2 hb3
            have hsz3 : w.heap.size + 1 ≤ w3.heap.size := by have := hb3.size; omega
            clear HF ho ho2 hb3 hb
            go_upto_region 14 with fail
            have hba := below_alloc (Below.refl w3.heap.size w3) (Obj.cells #[.int .i64 zp, .int .i64 (zt : Int), .bool zm] 111)
            have e0 : (w3.alloc (Obj.cells #[.int .i64 zp, .int .i64 (zt : Int), .bool zm] 111)).cell? ⟨w3.heap.size, 0, none⟩ = some (.int .i64 zp) := by simp [go_sem]
            have e1 : (w3.alloc (Obj.cells #[.int .i64 zp, .int .i64 (zt : Int), .bool zm] 111)).cell? ⟨w3.heap.size, 1, none⟩ = some (.int .i64 (zt : Int)) := by simp [go_sem]
            have e2 : (w3.alloc (Obj.cells #[.int .i64 zp, .int .i64 (zt : Int), .bool zm] 111)).cell? ⟨w3.heap.size, 2, none⟩ = some (.bool zm) := by simp [go_sem]
            replace k0 := kept1 k0 hba
            replace k1 := kept1 k1 hba
            replace k2 := kept1 k2 hba
            have ho4 := ho3.alloc (Obj.cells #[.int .i64 zp, .int .i64 (zt : Int), .bool zm] 111)
            have hb4 := hbz.trans (hba.mono hbz.size)
            have hsz4 : w.heap.size + 1 ≤ (w3.alloc (Obj.cells #[.int .i64 zp, .int .i64 (zt : Int), .bool zm] 111)).heap.size := by simp; omega
            clear hba ho3 hbz
            generalize w3.alloc (Obj.cells #[.int .i64 zp, .int .i64 (zt : Int), .bool zm] 111) = V at *
            generalize w3.heap.size = sb at *
            go_wp2_with (first
              | (at_builtin; refine wpList_append_own _ rfl (.tmp 50) (.tmp 53) 46 rfl (w.heap.size + 1) 70 i0 (.agg #[.int .i64 0, .bool false]) 2 16 Tryd.underlying46 hi0 hz0 hz1 hz2 rfl (by decide) _ _ _ rfl (ho4.alloc _) ⟨V.heap.size, 0, none⟩ 1 1 [.int .i64 (zt : Int), .bool zm] rfl rfl ?c1 ?c2 ?c3 ?c4 ?c5 ?_)
              | fail)
            case c1 =>
              intro j u hj
              match j, hj with
              | 0, hj => simp at hj; subst hj; simp [Addr.add]
              | 1, hj => simp at hj; subst hj; simp [Addr.add]
            case c2 => intro u hu; simp at hu; rcases hu with rfl | rfl <;> rfl
            case c3 => unfold maxLen; omega
            case c4 => omega
            case c5 => simp; omega
            intro v' w9 hown' hgrow hnn
            have hn9 : Hid (w9.ownsRow (w.heap.size + 1) 70 2 v' (k + 1) (sgCells (G ++ [(zt, zm)]))) := Lib.hid (by rw [sgCells_append]; exact hown')
            have hbG : Below (w.heap.size + 1) V w9 := ((Below.refl (w.heap.size + 1) V).alloc hsz4 _).grown hgrow (by simp; omega) (fun g hg => ownFar ho4 hg)
            have f0 := (hbG.cell (p := ⟨w.heap.size, 0, none⟩) (Nat.lt_succ_self _)).trans k0
            have f1 := (hbG.cell (p := ⟨w.heap.size, 1, none⟩) (Nat.lt_succ_self _)).trans k1
            have f2 := (hbG.cell (p := ⟨w.heap.size, 2, none⟩) (Nat.lt_succ_self _)).trans k2
            have hb9 := hb4.trans (hbG.mono (Nat.le_succ _))
            clear hown' hgrow hnn hbG k0 k1 k2 ho4 e0 e1 e2
            go_wp2
            go_roundw
            case rel => exact ⟨k + 1, _, by omega, by go_num, f0, f1, f2, hn9, hG2, hb9⟩
            case measure => first | (simp [RowKit.intOf]; done) | (simp [RowKit.intOf]; omega) | omega
          · rw [if_neg hzp] at hdr
            simp only at hdr
            subst hdr
            have nz : (zp != p) = true := by simpa using hzp
            go_wp2_with fail
            refine HF.out.mono ?_
            rintro e w3 ⟨rfl, hb3⟩
            have hbz := hb.trans (hb3.mono hb.size)
            clear HF ho ho2 hG
            go_wp2
            go_ret
            exact ⟨rfl, below_alloc hbz _⟩
      · obtain rfl : k = n := by omega
        have i1 : ¬ (k : Int) < (k : Int) := by omega
        have hdr := hG.out.2.2
        rw [List.drop_eq_nil_of_le (by have := hn.out; omega)] at hdr
        unfold Pl.folS at hdr
        simp only at hdr
        obtain ⟨a3, c3, rfl, hGs⟩ := sgs_of_owns hG.out.1 ho.out
        have HP := Lib.hid (proves_any s hV.s1 hV.s6 a3 k c3 G (Lib.hid hG.out.1) (by omega) (Lib.hid hG.out.2.1) wr (Lib.hid hGs))
        clear ho hG hGs
        obtain ⟨pb, hpb⟩ : ∃ pb, (Pl.frd s G == 0) = pb := ⟨_, rfl⟩
        rw [hpb] at HP hdr
        clear hpb
        subst hdr
        go_wp2_with fail
        refine HP.out.mono ?_
        rintro e w3 ⟨rfl, hb3⟩
        have hbz := hb.trans (hb3.mono hb.size)
        clear HP
        cases pb
        · go_wp2
          go_ret
          exact ⟨rfl, hbz⟩
        · go_wp2
          go_ret
          exact ⟨rfl, hbz⟩
  · have hRe : R = es := by
      have h := hR.out
      rw [if_pos he0] at h
      exact h.symm
    subst hRe
    have ne0 : (R != 0) = true := by simpa using he0
    clear hR hok
    go_wp2
    go_ret
    exact ⟨rfl, hbw2⟩
end Go.Proofs.YtidcedilfhmllaaDoor
