/- What the claims of layer 2 share, part 6: several texts one behind the other. -/
import Derived.Maps.OwnIn
import Derived.Sort.LoopGhostIn
import Derived.Sort.QuietIn
import Derived.Sort.CutIn
import Derived.Maps.AppendAt
import Derived.BigRegion
import Derived.Test.YtmkjmpkicmadcaaDoorZ05
set_option linter.unusedSimpArgs false
set_option linter.unusedVariables false
/- Contracts of package plate: classes. -/
namespace Go.Proofs.YtmkjmpkicmadcaaDoor
open Go.RowKit
attribute [local go_sem] Oper.semAt_some

/-- two rows of one's own that grow side by side, each behind a box -/
structure PR (w W : World) (p q : Nat) (xs ys : List Value) : Prop where
  e : ∃ v3 v4, W.cell? ⟨p, 0, none⟩ = some v3 ∧ W.cell? ⟨q, 0, none⟩ = some v4 ∧ W.ownsRow (w.heap.size + 2) 3 1 v3 xs.length xs ∧ W.ownsRow (w.heap.size + 2) 3 1 v4 ys.length ys ∧ (∀ g, v3.ownBlock = some g → v4.ownBlock ≠ some g)
  f3 : W.frozen? ⟨p, 0, none⟩ = false
  f4 : W.frozen? ⟨q, 0, none⟩ = false
  b : Below w.heap.size w W
  z : w.heap.size + 2 ≤ W.heap.size
theorem PR.swap {w W : World} {p q : Nat} {xs ys : List Value} (h : PR w W p q xs ys) : PR w W q p ys xs := by
  obtain ⟨v3, v4, d3, d4, o3, o4, hne⟩ := h.e
  exact ⟨⟨v4, v3, d4, d3, o4, o3, fun g hg e => hne g e hg⟩, h.f4, h.f3, h.b, h.z⟩
theorem PR.app {w W w4 : World} {p q : Nat} {xs ys : List Value} {v3 v4 v' u : Value} {o : Obj} (hpq : p ≠ q) (hp : w.heap.size ≤ p ∧ p < w.heap.size + 2) (hq : w.heap.size ≤ q ∧ q < w.heap.size + 2)
    (d3 : W.cell? ⟨p, 0, none⟩ = some v3) (d4 : W.cell? ⟨q, 0, none⟩ = some v4) (o3 : W.ownsRow (w.heap.size + 2) 3 1 v3 xs.length xs) (o4 : W.ownsRow (w.heap.size + 2) 3 1 v4 ys.length ys) (hne : ∀ g, v3.ownBlock = some g → v4.ownBlock ≠ some g) (f3 : W.frozen? ⟨p, 0, none⟩ = false) (f4 : W.frozen? ⟨q, 0, none⟩ = false) (hb : Below w.heap.size w W) (hz : w.heap.size + 2 ≤ W.heap.size)
    (hown : w4.ownsRow (w.heap.size + 2) 3 1 v' (xs.length + 1) (xs ++ [u])) (hgrow : (W.alloc o).grownBy w4 v3.ownBlock) (hat : v'.ownBlock = v3.ownBlock ∨ v'.ownBlock = some (W.heap.size + 1)) :
    w4.cell? ⟨p, 0, none⟩ = some v3 ∧ w4.frozen? ⟨p, 0, none⟩ = false ∧ PR w (w4.setCell ⟨p, 0, none⟩ v') p q (xs ++ [u]) ys := by
  have hbt := butGrown hgrow
  have hfar : ∀ k, k < w.heap.size + 2 → ¬ v3.ownBlock = some k := fun k hk e => by have := ownFar o3 e; omega
  have q3 := hbt.kept (cell_alloc d3 o) (hfar p hp.2)
  have q4 := hbt.kept (cell_alloc d4 o) (hfar q hq.2)
  have g3 : w4.frozen? ⟨p, 0, none⟩ = false := (hbt.frozen (p := ⟨p, 0, none⟩) (by simp; omega) (hfar p hp.2)).trans (((below_alloc (Below.refl W.heap.size W) o).frozen (p := ⟨p, 0, none⟩) (by simp; omega)).trans f3)
  have g4 : w4.frozen? ⟨q, 0, none⟩ = false := (hbt.frozen (p := ⟨q, 0, none⟩) (by simp; omega) (hfar q hq.2)).trans (((below_alloc (Below.refl W.heap.size W) o).frozen (p := ⟨q, 0, none⟩) (by simp; omega)).trans f4)
  have k4 := (o4.alloc o).kept hgrow (by
    cases hv : v4.ownBlock with
    | none => exact .inl rfl
    | some g => exact .inr (fun e => hne g e.symm hv))
  have hz4 : w.heap.size + 2 ≤ w4.heap.size := by have := hbt.size; simp at this; omega
  have hne2 : ∀ g, v'.ownBlock = some g → v4.ownBlock ≠ some g := fun g hg e => by
    rcases hat with h | h
    · exact hne g (h.symm.trans hg) e
    · rw [h] at hg
      cases hg
      have := (o4.lt _ e).2
      omega
  refine ⟨q3, g3, ⟨⟨v', v4, ?_, ?_, ?_, ?_, hne2⟩, ?_, ?_, ?_, ?_⟩⟩
  · simp [go_sem, q3]
  · exact (World.cell?_setCell_other _ _ _ _ (by simp)).trans q4
  · have h := ownsRow_setCell_below hown (a := ⟨p, 0, none⟩) hp.2 v'
    rw [List.length_append]
    exact h
  · exact ownsRow_setCell_below k4 (a := ⟨p, 0, none⟩) hp.2 v'
  · simp [go_sem, g3]
  · simp [go_sem, g4]
  · exact (hb.trans ((((below_alloc (Below.refl W.heap.size W) o)).mono hb.size).trans (hbt.below (by have := hb.size; simp; omega) (fun k hk => hfar k (by omega))))).setCell hp.1 v'
  · simpa using hz4
/-- the two lists, while they are begun -/
def C1 (w W : World) (j k : Nat) : Prop := PR w W w.heap.size (w.heap.size + 1) ((List.range j).map nV) (List.replicate k (.int .i64 1))

/-- the lists as they are begun with -/
theorem C1.un {w W : World} {N : Nat} (h : C1 w W N N) (hN : 0 < N) : ∃ lb wb cl cw, UN W w.heap.size (w.heap.size + 1) lb wb N cl cw (Pl.lsF (List.range N)) (Pl.wsF (List.replicate N 1)) ∧ lb ≠ wb ∧ w.heap.size + 2 ≤ lb ∧ w.heap.size + 2 ≤ wb ∧ W.frozen? ⟨w.heap.size, 0, none⟩ = false ∧ W.frozen? ⟨w.heap.size + 1, 0, none⟩ = false ∧ Below w.heap.size w W := by
  obtain ⟨v3, v4, d3, d4, o3, o4, hne⟩ := h.e
  have l3 : ((List.range N).map nV).length = N := by simp
  rw [l3] at o3
  rw [List.length_replicate] at o4
  obtain ⟨lb, cl, f, rfl, hl, hc, _, r3, e3⟩ := owns_row o3 hN
  obtain ⟨wb, cw, g, rfl, hw, hc', _, r4, e4⟩ := owns_row o4 hN
  refine ⟨lb, wb, cl, cw, ⟨d3, d4, fun k hk => ⟨?_, r3.frozen k⟩, fun k hk => ⟨?_, r4.frozen k⟩⟩, fun e => hne lb rfl (by rw [e]; rfl), hl, hw, h.f3, h.f4, h.b⟩
  · rw [r3.cell (i := k) (by omega)]
    have := e3 k hk
    rw [List.getElem?_map, List.getElem?_range hk] at this
    rw [← this]
    show some (nV k) = some (.int .i64 ((Pl.lsF (List.range N) k : Nat) : Int))
    rw [Pl.lsF_at (l := List.range N) (c := k) (by simpa using hk), List.getElem_range]
    rfl
  · rw [r4.cell (i := k) (by omega)]
    have := e4 k hk
    rw [List.getElem?_replicate, if_pos hk] at this
    rw [← this]
    show _ = some (Value.int .i64 (Pl.wsF (List.replicate N 1) k))
    rw [Pl.wsF_at (l := List.replicate N 1) (c := k) (by simpa using hk), List.getElem_replicate]

/-- what classes leaves -/
def ClPost (w : World) (N : Nat) (q : List Nat × List Int) (e : Ending) (w' : World) : Prop :=
  ∃ lb wb cl cw, e = .returned (.tuple #[.slice (some ⟨lb, 0, none⟩) N cl, .slice (some ⟨wb, 0, none⟩) N cw]) ∧ Hid (RowF w' lb N fun k => (Pl.lsF q.1 k : Int)) ∧ Hid (RowF w' wb N (Pl.wsF q.2)) ∧ lb ≠ wb ∧ w.heap.size ≤ lb ∧ w.heap.size ≤ wb ∧ Below w.heap.size w w'
theorem classes_end {w W : World} {lb wb N cl cw fb b3 b4 : Nat} {q : List Nat × List Int} {rs : List Nat} {tmps : Array Value} (h : KC w W b3 b4 lb wb N cl cw fb q rs) (kn : KN w b3 b4 lb wb fb) (hN : 0 < N) (hn : rs.Nodup) (h4 : tmps.getD 4 undef = .pointer (some ⟨b3, 0, none⟩)) (h5 : tmps.getD 5 undef = .pointer (some ⟨b4, 0, none⟩)) :
    LeavesInM Fence.wide 7 Tryd.prog Tryd.f51 tmps (ClPost w N q) (marks rs) .returning ((W.setCell ⟨b3, 0, none⟩ (.slice (some ⟨lb, 0, none⟩) N cl)).setCell ⟨b4, 0, none⟩ (.slice (some ⟨wb, 0, none⟩) N cw)).drew := by
  have hB : But (fun g => g = b3 ∨ g = b4) W ((W.setCell ⟨b3, 0, none⟩ (.slice (some ⟨lb, 0, none⟩) N cl)).setCell ⟨b4, 0, none⟩ (.slice (some ⟨wb, 0, none⟩) N cw)).drew := (((But.refl _ W).setCell (p := ⟨b3, 0, none⟩) (.inr (.inl rfl)) _).setCell (p := ⟨b4, 0, none⟩) (.inr (.inr rfl)) _).drew
  have ne := kn.ne
  have hb34 := kn.b34
  have nr : ∀ {W : World} {p : Addr} {x : Value}, W.cell? p = some x → ∀ r, W.heap[r]? = some (.deferred (some [])) → r ≠ p.block := fun hc r hr e => by
    have := cells_of_cell hc (o := _) (by rw [← e]; exact hr)
    cases this
  have c3 : ((W.setCell ⟨b3, 0, none⟩ (.slice (some ⟨lb, 0, none⟩) N cl)).setCell ⟨b4, 0, none⟩ (.slice (some ⟨wb, 0, none⟩) N cw)).drew.cell? ⟨b3, 0, none⟩ = some (.slice (some ⟨lb, 0, none⟩) N cl) := by simp [go_sem, h.u.c3, hb34, Ne.symm hb34]
  have c4 : ((W.setCell ⟨b3, 0, none⟩ (.slice (some ⟨lb, 0, none⟩) N cl)).setCell ⟨b4, 0, none⟩ (.slice (some ⟨wb, 0, none⟩) N cw)).drew.cell? ⟨b4, 0, none⟩ = some (.slice (some ⟨wb, 0, none⟩) N cw) := by simp [go_sem, h.u.c4, hb34, Ne.symm hb34]
  have hl := h.u.l.but hB (fun e => e.elim (Ne.symm ne.n2) (Ne.symm ne.n4))
  have hw := h.u.w.but hB (fun e => e.elim (Ne.symm ne.n3) (Ne.symm ne.n5))
  have hb := h.b.trans (hB.below h.b.size (fun k hk e => by have := kn.h3; have := kn.h4; omega))
  have mk : ∀ r ∈ rs, ((W.setCell ⟨b3, 0, none⟩ (.slice (some ⟨lb, 0, none⟩) N cl)).setCell ⟨b4, 0, none⟩ (.slice (some ⟨wb, 0, none⟩) N cw)).drew.heap[r]? = some (.deferred (some [])) := fun r hr =>
    (hB.block r (Array.getElem?_eq_some_iff.1 (h.mks r hr).2).1 (fun e => e.elim (nr h.u.c3 r (h.mks r hr).2) (nr h.u.c4 r (h.mks r hr).2))).trans (h.mks r hr).2
  generalize ((W.setCell ⟨b3, 0, none⟩ (.slice (some ⟨lb, 0, none⟩) N cl)).setCell ⟨b4, 0, none⟩ (.slice (some ⟨wb, 0, none⟩) N cw)).drew = X at *
  refine leaves_marks rs X hn mk ?_
  have fb := freed_but rs X
  have no : ∀ {p : Addr} {x : Value}, X.cell? p = some x → ¬ p.block ∈ rs := fun hc hm => nr hc _ (mk _ hm) rfl
  have k3 := fb.kept c3 (no c3)
  have k4 := fb.kept c4 (no c4)
  have t4 : tmps[4]?.getD undef = .pointer (some ⟨b3, 0, none⟩) := by rw [← h4]; simp
  have t5 : tmps[5]?.getD undef = .pointer (some ⟨b4, 0, none⟩) := by rw [← h5]; simp
  refine ⟨.tuple #[.slice (some ⟨lb, 0, none⟩) N cl, .slice (some ⟨wb, 0, none⟩) N cw], by simp [results, Tryd.results51, go_sem, t4, t5, k3, k4], lb, wb, cl, cw, rfl, Lib.hid (hl.but fb (no (hl 0 hN).1)), Lib.hid (hw.but fb (no (hw 0 hN).1)), ne.n1, kn.hl, kn.hw, ?_⟩
  exact hb.trans (fb.below hb.size (fun k hk hm => by have := (h.mks k hm).1; omega))

set_option maxRecDepth 100000 in
set_option maxHeartbeats 8000000 in
theorem classes_any (s : Nat) (h1 : 1 ≤ s) (h6 : s ≤ 6) (a : Option Addr) (n cap : Nat) (G : List (Nat × Bool)) (hn : Hid (G.length = n)) (hn2 : n ≤ 1000) (hG : Hid (∀ g ∈ G, g.1 < 8)) (w : World) (hg : Hid (SgsAt w a G)) :
    Calls Tryd.prog 51 #[.int .i64 (s : Int), .slice a n cap] w (ClPost w (s * s) (Pl.clsL s G)) := by
  obtain ⟨i0, hi, hz0, hz1, hz2⟩ := info_parts infoI64
  have hs2 : ((s * s : Nat) : Int) = (s : Int) * (s : Int) := Int.natCast_mul _ _
  have hs3 : s * s ≤ 36 := Nat.mul_le_mul h6 h6
  have hs1 : 1 ≤ s * s := Nat.mul_le_mul h1 h1
  have hs4 : (s : Int) * (s : Int) ≤ 36 := by omega
  have hs5 : (0 : Int) ≤ (s : Int) * (s : Int) := by omega
  obtain ⟨N, hN⟩ : ∃ N, s * s = N := ⟨_, rfl⟩
  rw [hN] at hs1 hs2 hs3
  rw [hN]
  replace hs2 := Lib.hid hs2
  have c1 : Hid (C1 w ((w.alloc (Obj.cells #[.slice none 0 0] 35)).alloc (Obj.cells #[.slice none 0 0] 35)) 0 0) := Lib.hid ⟨⟨_, _, by simp [go_sem], by simp [go_sem], World.ownsRow_nil _ _ _ _, World.ownsRow_nil _ _ _ _, fun g hg => by cases hg⟩, by simp [go_sem], by simp [go_sem], below_alloc (below_alloc (Below.refl _ _) _) _, by simp⟩
  refine (callsIn_wide (n := 7)).1 ?_
  refine callsIn_of_wp_marks Tryd.func51 rfl trivial ?_ rfl
  simp only [Tryd.ntmps51, List.size_toArray, List.length_cons, List.length_nil, Nat.reduceAdd, Nat.reduceSub, Array.replicate_succ, Array.replicate_zero, List.push_toArray, List.append_toArray, List.nil_append, List.cons_append]
  gi_wp2_with fail
  gi_loopw [16] (fun iv wr => ∃ k : Nat, k ≤ N ∧ iv = .int .i64 (k : Int) ∧ Hid (C1 w wr k k)) (fun iv _ => N - (RowKit.intOf iv).toNat)
  case atStart => exact ⟨0, Nat.zero_le _, rfl, c1⟩
  case round =>
    clear c1
    obtain ⟨k, hk, rfl, hC⟩ := hrel
    by_cases hlt : k < N
    · have hi5 : (k : Int) < (s : Int) * (s : Int) := by rw [← hs2.out]; omega
      obtain ⟨v3, v4, d3, d4, o3, o4, hne⟩ := hC.out.e
      have f3 := hC.out.f3
      have f4 := hC.out.f4
      have hb := hC.out.b
      have hz := hC.out.z
      have l3 : ((List.range k).map nV).length = k := by simp
      have AP := Lib.hid (fun (o : Obj) (w4 : World) (v' : Value) => PR.app (o := o) (w4 := w4) (v' := v') (u := .int .i64 (k : Int)) (by omega) ⟨Nat.le_refl _, by omega⟩ ⟨by omega, by omega⟩ d3 d4 o3 o4 hne f3 f4 hb hz)
      rw [l3] at o3 AP
      clear hC l3
      gi_wp2_with (first
        | (gi_at_builtin; refine wpListIn_append_own_at _ rfl (.tmp 19) (.tmp 21) 35 rfl (w.heap.size + 2) 3 i0 (.int .i64 0) 1 8 Tryd.underlying35 hi hz0 hz1 hz2 rfl (by decide) _ _ _ rfl (o3.alloc _) ⟨wr.heap.size, 0, none⟩ 1 1 [.int .i64 (k : Int)] rfl rfl ?c1 ?c2 ?c3 ?c4 ?c5 ?_)
        | fail)
      case c1 =>
        intro j u hj
        match j, hj with
        | 0, hj => simp at hj; subst hj; simp [Addr.add]
      case c2 => intro u hu; simp at hu; subst hu; rfl
      case c3 => unfold maxLen; omega
      case c4 => omega
      case c5 => simp; omega
      intro v' w4 hown' hgrow hnn hat
      obtain ⟨p3, cp3, rfl⟩ := ownForm hown'
      obtain ⟨q3, g3, hPR⟩ := AP.out _ _ _ hown' hgrow hat
      have hC2 : Hid (C1 w (w4.setCell ⟨w.heap.size, 0, none⟩ (.slice p3 (k + 1) cp3)) (k + 1) k) := Lib.hid (by unfold C1; rw [List.range_succ, List.map_append]; exact hPR)
      clear AP hown' hgrow hnn hat hPR d3 d4 o3 o4 hne f3 f4 hb hz v4
      gi_upto_region 5 with fail
      clear q3 g3
      generalize w4.setCell ⟨w.heap.size, 0, none⟩ (.slice p3 (k + 1) cp3) = wq at *
      obtain ⟨v4, v3, d4, d3, o4, o3, hne⟩ := hC2.out.swap.e
      have f3 := hC2.out.f3
      have f4 := hC2.out.f4
      have hb := hC2.out.b
      have hz := hC2.out.z
      have AP := Lib.hid (fun (o : Obj) (w4 : World) (v' : Value) => PR.app (o := o) (w4 := w4) (v' := v') (u := .int .i64 1) (by omega) ⟨by omega, by omega⟩ ⟨Nat.le_refl _, by omega⟩ d4 d3 o4 o3 hne f4 f3 hb hz)
      rw [List.length_replicate] at o4 AP
      clear hC2
      gi_wp2_with (first
        | (gi_at_builtin; refine wpListIn_append_own_at _ rfl (.tmp 23) (.tmp 24) 35 rfl (w.heap.size + 2) 3 i0 (.int .i64 0) 1 8 Tryd.underlying35 hi hz0 hz1 hz2 rfl (by decide) _ _ _ rfl (o4.alloc _) ⟨wq.heap.size, 0, none⟩ 1 1 [.int .i64 1] rfl rfl ?c1 ?c2 ?c3 ?c4 ?c5 ?_)
        | fail)
      case c1 =>
        intro j u hj
        match j, hj with
        | 0, hj => simp at hj; subst hj; simp [Addr.add]
      case c2 => intro u hu; simp at hu; subst hu; rfl
      case c3 => unfold maxLen; omega
      case c4 => omega
      case c5 => simp; omega
      intro v' w4 hown' hgrow hnn hat
      obtain ⟨p4, cp4, rfl⟩ := ownForm hown'
      obtain ⟨q4, g4, hPR⟩ := AP.out _ _ _ hown' hgrow hat
      have hC3 : Hid (C1 w (w4.setCell ⟨w.heap.size + 1, 0, none⟩ (.slice p4 (k + 1) cp4)) (k + 1) (k + 1)) := Lib.hid (by unfold C1; rw [List.replicate_succ']; exact hPR.swap)
      clear AP hown' hgrow hnn hat hPR d3 d4 o3 o4 hne f3 f4 hb hz
      gi_wp2
      go_roundw
      case rel => exact ⟨k + 1, by omega, by go_num, hC3⟩
      case measure => first | (simp [RowKit.intOf]; done) | (simp [RowKit.intOf]; omega) | omega
    · obtain rfl : k = N := by omega
      have hneg : ¬ (k : Int) < (s : Int) * (s : Int) := by rw [← hs2.out]; omega
      have hneg2 : ¬ (s : Int) * (s : Int) < (s : Int) * (s : Int) := by omega
      gi_upto_region 7 with fail
      obtain ⟨lb, wb, cl, cw, hU, hlw, hl, hw, f3, f4, hb⟩ := hC.out.un hs1
      have hmf : ∀ (fn : Fn) (first cap : Array Value) (w : World), (Instr.makeFunc fn first cap).run Tryd.prog w = .ok (.func fn first cap) w := fun _ _ _ _ => rfl
      have kw := (block_lt_of_cell (hU.l 0 hs1).1)
      have kw2 := (block_lt_of_cell (hU.w 0 hs1).1)
      simp only at kw kw2
      have hKN : Hid (KN w w.heap.size (w.heap.size + 1) lb wb wr.heap.size) := Lib.hid ⟨⟨hlw, by omega, by omega, by omega, by omega⟩, Nat.le_refl _, by omega, by omega, by omega, by omega, by omega, by omega⟩
      have hbA := below_alloc (Below.refl wr.heap.size wr) (Obj.cells #[.func (.func 68) #[] #[.pointer (some ⟨w.heap.size, 0, none⟩), .pointer (some ⟨w.heap.size + 1, 0, none⟩)]] 117)
      have hKC : Hid (KC w (wr.alloc (Obj.cells #[.func (.func 68) #[] #[.pointer (some ⟨w.heap.size, 0, none⟩), .pointer (some ⟨w.heap.size + 1, 0, none⟩)]] 117)) w.heap.size (w.heap.size + 1) lb wb k cl cw wr.heap.size (Pl.clsL s (G.take 0)) []) := Lib.hid ⟨by
        have e : Pl.clsL s (G.take 0) = (List.range k, List.replicate k 1) := by rw [List.take_zero]; unfold Pl.clsL Pl.edges; rw [hN]; rfl
        rw [e]
        exact hU.but (T := fun _ => False) (.of_below hbA) id id id id, (hbA.frozen (p := ⟨w.heap.size, 0, none⟩) (by simp; omega)).trans f3, (hbA.frozen (p := ⟨w.heap.size + 1, 0, none⟩) (by simp; omega)).trans f4, by simp [go_sem], below_alloc hb _, fun r hr => by cases hr⟩
      clear hU f3 f4 hb hbA hl hw hlw kw kw2 hC
      gi_wp2
      -- the loop over the signs
      rename_i K0 hK0
      generalize hQ0 : Exit.inBlock 2 _ = Q0
      replace hQ0 := Lib.hid hQ0
      replace hK0 := Lib.hid hK0
      have hfb := block_lt_of_cell hKC.out.f
      simp only at hfb
      generalize wr.alloc (Obj.cells #[.func (.func 68) #[] #[.pointer (some ⟨w.heap.size, 0, none⟩), .pointer (some ⟨w.heap.size + 1, 0, none⟩)]] 117) = Y at *
      generalize wr.heap.size = fb at *
      refine wpIn_loop_ghost_k (fun gk a' W => ∃ (v8 v9 v10 v11 v12 v31 v32 v33 v34 v35 v36 v37 v38 v39 v40 v41 v42 v43 v44 v45 v46 v47 v48 v49 : Value) (j : Nat) (rs : List Nat), (j ≤ n ∧ gk = n - j ∧ Hid rs.Nodup ∧ Hid (KC w W w.heap.size (w.heap.size + 1) lb wb k cl cw fb (Pl.clsL s (G.take j)) rs)) ∧ a' = { tmps := #[.int .i64 (s : Int), .slice a n cap, undef, undef, .pointer (some ⟨w.heap.size, 0, none⟩), .pointer (some ⟨w.heap.size + 1, 0, none⟩), u6, .pointer (some ⟨fb, 0, none⟩), v8, v9, v10, v11, v12, .int .i64 (s : Int), .int .i64 (s : Int), .int .i64 ((s : Int) * (s : Int)), .int .i64 (k : Int), .bool false, u18, u19, u20, u21, u22, u23, u24, u25, u26, .func (.func 68) #[] #[.pointer (some ⟨w.heap.size, 0, none⟩), .pointer (some ⟨w.heap.size + 1, 0, none⟩)], .slice a n cap, .int .i64 (n : Int), .int .i64 (j : Int), v31, v32, v33, v34, v35, v36, v37, v38, v39, v40, v41, v42, v43, v44, v45, v46, v47, v48, v49], defers := marks rs }) n ?_ ?_
      · exact ⟨_, _, _, _, _, _, _, _, _, _, _, _, _, _, _, _, _, _, _, _, _, _, _, _, 0, [], ⟨Nat.zero_le _, by omega, Lib.hid List.nodup_nil, hKC⟩, rfl⟩
      · clear hKC hfb
        clear Y
        rintro gk _ wq ⟨v8, v9, v10, v11, v12, v31, v32, v33, v34, v35, v36, v37, v38, v39, v40, v41, v42, v43, v44, v45, v46, v47, v48, v49, j, rs, ⟨hj, rfl, HN, HS⟩, rfl⟩ J K hJ hK
        replace hJ := Lib.hid hJ
        replace hK := Lib.hid hK
        by_cases hlt : j < n
        · have hjl : j < G.length := by have := hn.out; omega
          obtain ⟨x, rfl, hc0, hc1⟩ := hg.out j hjl
          obtain ⟨t, m, hz⟩ : ∃ t m, G.getD j (0, false) = (t, m) := ⟨_, _, rfl⟩
          have hmem : (t, m) ∈ G := by rw [← hz, List.getD, List.getElem?_eq_getElem hjl]; exact List.getElem_mem hjl
          have htk : Hid (G.take (j + 1) = G.take j ++ [(t, m)]) := Lib.hid (by rw [List.take_succ_eq_append_getElem hjl, ← hz, List.getD, List.getElem?_eq_getElem hjl]; rfl)
          rw [hz] at hc0 hc1
          simp only at hc0 hc1
          have ht : t < 8 := hG.out _ hmem
          have hGt : Hid (∀ g ∈ G.take j, g.1 < 8) := Lib.hid (fun g hg => hG.out g (List.mem_of_mem_take hg))
          clear hz hmem
          replace hc0 := kept1 hc0 HS.out.b
          replace hc1 := kept1 hc1 HS.out.b
          have hi5 : (j : Int) < (n : Int) := by omega
          have hi6 : (0 : Int) ≤ (j : Int) := by omega
          have HM := Lib.hid (fun W => moves_any s t ht W)
          have hlw := block_lt_of_cell (HS.out.u.l 0 hs1).1
          have hww := block_lt_of_cell (HS.out.u.w 0 hs1).1
          have h3w := block_lt_of_cell HS.out.u.c3
          have h4w := block_lt_of_cell HS.out.u.c4
          have hfw := block_lt_of_cell HS.out.f
          simp only at hlw hww h3w h4w hfw
          have hwb := HS.out.b.size
          cases m
          · have hX : Hid (Below wq.heap.size wq ((wq.alloc (Obj.cells #[.int .i64 (t : Int), .bool false] 38)).alloc (Obj.cells #[.int .i64 1] 3))) := Lib.hid (below_alloc (below_alloc (Below.refl _ _) _) _)
            have hXw : ((wq.alloc (Obj.cells #[.int .i64 (t : Int), .bool false] 38)).alloc (Obj.cells #[.int .i64 1] 3)).cell? ⟨wq.heap.size + 1, 0, none⟩ = some (.int .i64 (Pl.sg false)) := by simp [go_sem, Pl.sg]
            have hX0 : ((wq.alloc (Obj.cells #[.int .i64 (t : Int), .bool false] 38)).alloc (Obj.cells #[.int .i64 1] 3)).cell? ⟨wq.heap.size, 0, none⟩ = some (.int .i64 (t : Int)) := by simp [go_sem]
            gi_wp2_with fail
            refine ⟨trivial, ?_⟩
            refine (callsIn_wide.2 (HM.out _)).mono ?_
            rintro e w2 ⟨b2, b5, rfl, hMK, hb2, hs2', hs5'⟩
            have HS2 := Lib.hid ((HS.out.below hX.out).below hb2)
            replace hXw := kept1 hXw hb2
            have hsz2 : wq.heap.size + 1 + 1 ≤ w2.heap.size := by have := hb2.size; simp at this; omega
            have hb25 : wq.heap.size + 1 + 1 ≤ b2 ∧ wq.heap.size + 1 + 1 ≤ b5 := by simp at hs2' hs5'; omega
            have hmk := HS.out.mks
            have hrs : ∀ r ∈ rs, r < w2.heap.size := fun r hr => by have := (Array.getElem?_eq_some_iff.1 (hmk r hr).2).1; omega
            replace hrs := Lib.hid hrs
            clear HM hX hX0 hb2 hs2' hs5' hmk hc0 hc1 HS
            gi_wp2_with fail
            refine range_nextV (enc := mvV) (n := 7) (hps := fun _ => rfl) (by omega) (gf := 82) (lb := #[.pointer (some ⟨b2, 0, none⟩), .pointer (some ⟨b5, 0, none⟩)]) rfl (enters_of Tryd.func82 (by kernel_rfl) rfl)
              (moves_hands 6 (by omega) b2 b5 s t ht h1 h6 w2) (Below.refl _ _)
              (KI w w2.heap.size w.heap.size (w.heap.size + 1) lb wb k cl cw fb (wq.heap.size + 1) b2 b5 s t (G.take j) false rs) (fun _ _ => False) (ki_own _ _ _ _ _ _ _ _ _ _ _ _ _ _ _ _ _ _) (fun _ _ _ _ h _ _ => h) ?keep ?init ?a1false ?assign ?body ?done ?stop
            case keep => exact fun pre W h => h.2.2.1
            case init => exact ⟨by rw [Pl.clsTo_nil]; exact HS2.out, hXw, hMK.out, hrs.out, by omega⟩
            case assign =>
              intro l x W K' hK'
              simp only [mvV] at hK' ⊢
              gi_wp2
              exact hK'
            case stop => exact fun _ _ _ _ _ h _ => h.elim
            case body =>
              rintro l pre ⟨c, d⟩ W ⟨g1, g2, g3, g4, g5⟩ hpre
              have hmem : (c, d) ∈ Pl.mvs s t (s * s) := hpre.subset (by simp)
              obtain ⟨hc, hd⟩ := Pl.mvs_mem hmem
              simp only at hc hd
              have hd2 : d < s * s := by rw [hd]; exact Pl.tk_lt h6 hc ht
              rw [hN] at hc hd2
              have hCL := Pl.clsTo_CL h6 hGt.out false ht (pre := pre) (fun e he => hpre.subset (by simp [he]))
              rw [hN] at hCL
              have HU := Lib.hid (unite_any w.heap.size (w.heap.size + 1) lb wb k cl cw c d false _ _ hc hd2 hs3 (Lib.hid hCL.lt) (Lib.hid hCL.tri) hKN.out.ne W (Lib.hid g1.u))
              have hfn := g1.f
              have hsn := Lib.hid (Pl.clsTo_snoc s (G.take j) false pre (c, d))
              have HI : Hid (KC w W w.heap.size (w.heap.size + 1) lb wb k cl cw fb (Pl.clsTo s (G.take j) false pre) rs ∧ MK b2 b5 s t W) := Lib.hid ⟨g1, g3⟩
              have entc := Lib.hid entC
              have ent : ∀ args W, (callFunc 68 args).run Tryd.prog W = .ok (.enter 68 args) W := entc.out
              replace hCL := Lib.hid hCL
              simp only [Pl.sg, if_false, Bool.false_eq_true] at g2 HU
              clear g1 g3 hmem hpre HS2 hMK hd
              gi_wp2_with fail
              refine ⟨trivial, ?_⟩
              refine (CallsIn.inRound _ (callsIn_wide.2 HU.out)).mono ?_
              rintro e w3 ⟨rfl, hU3, hB3⟩
              have hk3 := keepsU hB3.out HI.out.1.u.l HI.out.1.u.w hs1
              have hl1 := hCL.out.l
              have hl2 := hCL.out.w
              have hK3 : KC w w3 w.heap.size (w.heap.size + 1) lb wb k cl cw fb (Pl.clsTo s (G.take j) false (pre ++ [(c, d)])) rs := HI.out.1.next hKN.out hs1 hB3.out hU3.out (fun q hq => by rw [hsn.out]; exact (Pl.lsF_unl (by omega) _ _).symm) (fun q hq => by rw [hsn.out]; exact (Pl.wsF_unl (by omega) (by omega) _ _ _).symm)
              have hw3 := hB3.out.kept g2 (fun e => by simp only at e; omega)
              have hM3 : MK b2 b5 s t w3 := ⟨hB3.out.kept HI.out.2.c (fun e => by simp only at e; omega), hB3.out.kept HI.out.2.f0 (fun e => by simp only at e; omega), hB3.out.kept HI.out.2.f1 (fun e => by simp only at e; omega)⟩
              clear HU hU3 hB3 HI
              gi_wp2
              exact ⟨hk3.from _, hk3.walks, hK3, hw3, hM3, g4, g5⟩
            case done =>
              rintro E W hE ⟨g1, _, _, g4, _⟩ hD
              have hne : E ∉ rs := fun hm => by have := g4 E hm; omega
              rw [Pl.clsTo_all, ← htk.out] at g1
              have HE := Lib.hid (g1.mark (E := E) (by omega) hD)
              clear g1 HS2 hMK
              gi_wp2
              refine hK.out _ _ (Handed.intro (n - (j + 1)) (by omega) (hJ.out _ _ _ ?_))
              exact ⟨_, _, _, _, _, _, _, _, _, _, _, _, _, _, _, _, _, _, _, _, _, _, _, _, j + 1, E :: rs, ⟨by omega, rfl, Lib.hid (List.nodup_cons.2 ⟨hne, HN.out⟩), HE⟩, rfl⟩
          · have hX : Hid (Below wq.heap.size wq ((wq.alloc (Obj.cells #[.int .i64 (t : Int), .bool true] 38)).alloc (Obj.cells #[.int .i64 (-1)] 3))) := Lib.hid (below_alloc (below_alloc (Below.refl _ _) _) _)
            have hXw : ((wq.alloc (Obj.cells #[.int .i64 (t : Int), .bool true] 38)).alloc (Obj.cells #[.int .i64 (-1)] 3)).cell? ⟨wq.heap.size + 1, 0, none⟩ = some (.int .i64 (Pl.sg true)) := by simp [go_sem, Pl.sg]
            have hX0 : ((wq.alloc (Obj.cells #[.int .i64 (t : Int), .bool true] 38)).alloc (Obj.cells #[.int .i64 (-1)] 3)).cell? ⟨wq.heap.size, 0, none⟩ = some (.int .i64 (t : Int)) := by simp [go_sem]
            gi_wp2_with fail
            refine ⟨trivial, ?_⟩
            refine (callsIn_wide.2 (HM.out _)).mono ?_
            rintro e w2 ⟨b2, b5, rfl, hMK, hb2, hs2', hs5'⟩
            have HS2 := Lib.hid ((HS.out.below hX.out).below hb2)
            replace hXw := kept1 hXw hb2
            have hsz2 : wq.heap.size + 1 + 1 ≤ w2.heap.size := by have := hb2.size; simp at this; omega
            have hb25 : wq.heap.size + 1 + 1 ≤ b2 ∧ wq.heap.size + 1 + 1 ≤ b5 := by simp at hs2' hs5'; omega
            have hmk := HS.out.mks
            have hrs : ∀ r ∈ rs, r < w2.heap.size := fun r hr => by have := (Array.getElem?_eq_some_iff.1 (hmk r hr).2).1; omega
            replace hrs := Lib.hid hrs
            clear HM hX hX0 hb2 hs2' hs5' hmk hc0 hc1 HS
            gi_wp2_with fail
            refine range_nextV (enc := mvV) (n := 7) (hps := fun _ => rfl) (by omega) (gf := 82) (lb := #[.pointer (some ⟨b2, 0, none⟩), .pointer (some ⟨b5, 0, none⟩)]) rfl (enters_of Tryd.func82 (by kernel_rfl) rfl)
              (moves_hands 6 (by omega) b2 b5 s t ht h1 h6 w2) (Below.refl _ _)
              (KI w w2.heap.size w.heap.size (w.heap.size + 1) lb wb k cl cw fb (wq.heap.size + 1) b2 b5 s t (G.take j) true rs) (fun _ _ => False) (ki_own _ _ _ _ _ _ _ _ _ _ _ _ _ _ _ _ _ _) (fun _ _ _ _ h _ _ => h) ?keep ?init ?a1true ?assign ?body ?done ?stop
            case keep => exact fun pre W h => h.2.2.1
            case init => exact ⟨by rw [Pl.clsTo_nil]; exact HS2.out, hXw, hMK.out, hrs.out, by omega⟩
            case assign =>
              intro l x W K' hK'
              simp only [mvV] at hK' ⊢
              gi_wp2
              exact hK'
            case stop => exact fun _ _ _ _ _ h _ => h.elim
            case body =>
              rintro l pre ⟨c, d⟩ W ⟨g1, g2, g3, g4, g5⟩ hpre
              have hmem : (c, d) ∈ Pl.mvs s t (s * s) := hpre.subset (by simp)
              obtain ⟨hc, hd⟩ := Pl.mvs_mem hmem
              simp only at hc hd
              have hd2 : d < s * s := by rw [hd]; exact Pl.tk_lt h6 hc ht
              rw [hN] at hc hd2
              have hCL := Pl.clsTo_CL h6 hGt.out true ht (pre := pre) (fun e he => hpre.subset (by simp [he]))
              rw [hN] at hCL
              have HU := Lib.hid (unite_any w.heap.size (w.heap.size + 1) lb wb k cl cw c d true _ _ hc hd2 hs3 (Lib.hid hCL.lt) (Lib.hid hCL.tri) hKN.out.ne W (Lib.hid g1.u))
              have hfn := g1.f
              have hsn := Lib.hid (Pl.clsTo_snoc s (G.take j) true pre (c, d))
              have HI : Hid (KC w W w.heap.size (w.heap.size + 1) lb wb k cl cw fb (Pl.clsTo s (G.take j) true pre) rs ∧ MK b2 b5 s t W) := Lib.hid ⟨g1, g3⟩
              have entc := Lib.hid entC
              have ent : ∀ args W, (callFunc 68 args).run Tryd.prog W = .ok (.enter 68 args) W := entc.out
              replace hCL := Lib.hid hCL
              simp only [Pl.sg, if_true] at g2 HU
              clear g1 g3 hmem hpre HS2 hMK hd
              gi_wp2_with fail
              refine ⟨trivial, ?_⟩
              refine (CallsIn.inRound _ (callsIn_wide.2 HU.out)).mono ?_
              rintro e w3 ⟨rfl, hU3, hB3⟩
              have hk3 := keepsU hB3.out HI.out.1.u.l HI.out.1.u.w hs1
              have hl1 := hCL.out.l
              have hl2 := hCL.out.w
              have hK3 : KC w w3 w.heap.size (w.heap.size + 1) lb wb k cl cw fb (Pl.clsTo s (G.take j) true (pre ++ [(c, d)])) rs := HI.out.1.next hKN.out hs1 hB3.out hU3.out (fun q hq => by rw [hsn.out]; exact (Pl.lsF_unl (by omega) _ _).symm) (fun q hq => by rw [hsn.out]; exact (Pl.wsF_unl (by omega) (by omega) _ _ _).symm)
              have hw3 := hB3.out.kept g2 (fun e => by simp only at e; omega)
              have hM3 : MK b2 b5 s t w3 := ⟨hB3.out.kept HI.out.2.c (fun e => by simp only at e; omega), hB3.out.kept HI.out.2.f0 (fun e => by simp only at e; omega), hB3.out.kept HI.out.2.f1 (fun e => by simp only at e; omega)⟩
              clear HU hU3 hB3 HI
              gi_wp2
              exact ⟨hk3.from _, hk3.walks, hK3, hw3, hM3, g4, g5⟩
            case done =>
              rintro E W hE ⟨g1, _, _, g4, _⟩ hD
              have hne : E ∉ rs := fun hm => by have := g4 E hm; omega
              rw [Pl.clsTo_all, ← htk.out] at g1
              have HE := Lib.hid (g1.mark (E := E) (by omega) hD)
              clear g1 HS2 hMK
              gi_wp2
              refine hK.out _ _ (Handed.intro (n - (j + 1)) (by omega) (hJ.out _ _ _ ?_))
              exact ⟨_, _, _, _, _, _, _, _, _, _, _, _, _, _, _, _, _, _, _, _, _, _, _, _, j + 1, E :: rs, ⟨by omega, rfl, Lib.hid (List.nodup_cons.2 ⟨hne, HN.out⟩), HE⟩, rfl⟩
        · obtain rfl : j = n := by omega
          have hi5 : ¬ (j : Int) < (j : Int) := by omega
          have hall : G.take j = G := List.take_of_length_le (by have := hn.out; omega)
          rw [hall] at HS
          clear hall
          gi_wp2
          rw [← hQ0.out]
          refine hK0.out _ _ ?_
          clear hK0 hQ0 hJ hK
          have k3 := HS.out.u.c3
          have k4 := HS.out.u.c4
          have k5 := HS.out.f3
          have k6 := HS.out.f4
          gi_wp2
          gi_region
          gi_wp2
          exact classes_end HS.out hKN.out hs1 HN.out rfl rfl
end Go.Proofs.YtmkjmpkicmadcaaDoor

/- Contracts of package plate: freedom, proves. -/
namespace Go.Proofs.YtmkjmpkicmadcaaDoor
open Go.RowKit

theorem evs_le (N : Nat) (l : Nat → Nat) (w : Nat → Int) : (Pl.evs N l w).length ≤ N := by
  unfold Pl.evs
  have := List.length_filter_le (fun x => decide (l x = x) && decide (w x ≠ 0)) (List.range N)
  rw [List.length_range] at this
  exact this

set_option maxRecDepth 100000 in
set_option maxHeartbeats 4000000 in
theorem freedom_any (s : Nat) (h1 : 1 ≤ s) (h6 : s ≤ 6) (a : Option Addr) (n cap : Nat) (G : List (Nat × Bool)) (hn : Hid (G.length = n)) (hn2 : n ≤ 1000) (hG : Hid (∀ g ∈ G, g.1 < 8)) (w : World) (hg : Hid (SgsAt w a G)) :
    Calls Tryd.prog 52 #[.int .i64 (s : Int), .slice a n cap] w fun e w' => e = .returned (.int .i64 (Pl.frd s G)) ∧ Below w.heap.size w w' := by
  have HC := Lib.hid (classes_any s h1 h6 a n cap G hn hn2 hG w hg)
  have HM := Lib.hid (fun (W : World) (hb : Below w.heap.size w W) => containsMinus_any a cap G n hn hn2 W (Lib.hid (hg.out.below hb)))
  have hs3 : s * s ≤ 36 := Nat.mul_le_mul h6 h6
  obtain ⟨N, hN⟩ : ∃ N, s * s = N := ⟨_, rfl⟩
  have hev := evs_le N (Pl.lsF (Pl.clsL s G).1) (Pl.wsF (Pl.clsL s G).2)
  have hfr : Pl.frd s G = ((Pl.evs N (Pl.lsF (Pl.clsL s G).1) (Pl.wsF (Pl.clsL s G).2)).length : Int) - if G.any (·.2) then 0 else 1 := by
    unfold Pl.frd Pl.free Pl.minusS
    rw [hN]
  rw [hN] at HC hs3
  obtain ⟨L, hL⟩ : ∃ L, (Pl.evs N (Pl.lsF (Pl.clsL s G).1) (Pl.wsF (Pl.clsL s G).2)).length = L := ⟨_, rfl⟩
  rw [hL] at hfr hev
  rw [hfr]
  clear hfr
  go_enter Tryd.func52, Tryd.ntmps52
  go_wp2_with fail
  refine HC.out.mono ?_
  rintro e w1 ⟨lb, wb, cl, cw, rfl, hl, hw, _, _, _, hb1⟩
  clear HC
  go_wp2_with fail
  refine (evenClasses_any lb wb N cl cw _ _ hs3 w1 hl hw).mono ?_
  rintro e w2 ⟨v, rfl, ho, hb2⟩
  have ho2 := ho.out
  rw [hL] at ho2
  obtain ⟨p, cp, rfl⟩ := ownForm ho2
  clear ho2 hL
  have hb := hb1.trans (hb2.mono hb1.size)
  clear ho hl hw hb1 hb2
  go_wp2_with fail
  refine (HM.out w2 hb).mono ?_
  rintro e w3 ⟨rfl, hb3⟩
  have hb9 := hb.trans (hb3.mono hb.size)
  cases hm : G.any (·.2)
  · go_wp2
    all_goals refine bodyPost_ret (v := .int .i64 ((L : Int) - 1)) (by simp [results, Tryd.results52, go_sem]) rfl ?_
    all_goals exact ⟨rfl, hb9⟩
  · go_wp2
    go_ret
    exact ⟨by simp, hb9⟩

/-- proves -/
theorem proves_any (s : Nat) (h1 : 1 ≤ s) (h6 : s ≤ 6) (a : Option Addr) (n cap : Nat) (G : List (Nat × Bool)) (hn : Hid (G.length = n)) (hn2 : n ≤ 1000) (hG : Hid (∀ g ∈ G, g.1 < 8)) (w : World) (hg : Hid (SgsAt w a G)) :
    Calls Tryd.prog 59 #[.int .i64 (s : Int), .slice a n cap] w fun e w' => e = .returned (.bool (Pl.frd s G == 0)) ∧ Below w.heap.size w w' := by
  have HF := Lib.hid (freedom_any s h1 h6 a n cap G hn hn2 hG w hg)
  go_enter Tryd.func59, Tryd.ntmps59
  go_wp2_with fail
  refine HF.out.mono ?_
  rintro e w1 ⟨rfl, hb1⟩
  go_wp2
  go_ret
  exact ⟨rfl, hb1⟩
end Go.Proofs.YtmkjmpkicmadcaaDoor

/- A look-up without ok in a map of arrivals; walks' first state. -/
namespace Go.Proofs.YtmkjmpkicmadcaaDoor
open Go.RowKit Go.Maps Go.ChangeMaps

theorem AM.look1 {W : World} {b n : Nat} {f : Pl.St → Option (Pl.St × Int)} (h : AM W b n f) {y : Pl.St} (hy : KS y) :
    (Instr.lookup 86 (.map (some b)) (stV y) false).run Tryd.prog W = .ok (arV ((f y).getD ar0)) W := by
  obtain ⟨es, clock, hb, _, h1, h2⟩ := h
  obtain ⟨l, hl⟩ := key_st hy
  rcases keyedSt.find W hl es.toList (AM.keys h1) with ⟨g1, g2⟩ | ⟨j, e0, g1, g2, g3⟩
  · have hn : f y = none := by
      cases hf : f y with
      | none => rfl
      | some a =>
        obtain ⟨e, he, hk⟩ := h2 y a hf
        exact (g2 e he hk).elim
    rw [hn]
    simp [Instr.lookup, run_underlying mapTy, MapKept.run_getObj_map hb, keyedSt.check W _ hl, g1, Result.andThen]
    rfl
  · obtain ⟨y', a, hy', k1, k2, k3⟩ := h1 e0 (List.mem_of_getElem? g2)
    obtain rfl := stV_inj (k1.symm.trans g3)
    rw [k3]
    simp [Instr.lookup, run_underlying mapTy, MapKept.run_getObj_map hb, keyedSt.check W _ hl, g1, k2, Result.andThen]
/-- the map that makeMap lays and one insert fills -/
theorem AM.put0 {W : World} {b : Nat} (h : AM W b 0 (fun _ => none)) {y : Pl.St} (hy : KS y) (a : Pl.St × Int) :
    ∃ W', (Instr.mapUpdate 86 (.map (some b)) (stV y) (arV a)).run Tryd.prog W = .ok () W' ∧ AM W' b 1 (fun z => if z = y then some a else none) ∧ W.mapTurned W' b := h.put hy rfl a
end Go.Proofs.YtmkjmpkicmadcaaDoor

/- Layer 3, plain: each state but the first was come to from one before. -/
namespace Pl
variable {α : Type}

def Par (f : α → Int → Option α) (acc : List (α × List Int)) : Prop := ∀ e ∈ acc, e.2 = [] ∨ ∃ x ∈ acc, ∃ t, e.2 = x.2 ++ [t] ∧ f x.1 t = some e.1
theorem Par.add [DecidableEq α] {f : α → Int → Option α} {acc : List (α × List Int)} (h : Par f acc) {x : α × List Int} (hx : x ∈ acc) (t : Int) : Par f (addS f x acc t) ∧ x ∈ addS f x acc t := by
  unfold addS
  cases hf : f x.1 t with
  | none => exact ⟨h, hx⟩
  | some y =>
    simp only
    split
    · exact ⟨h, hx⟩
    · refine ⟨fun e he => ?_, List.mem_append_left _ hx⟩
      rcases List.mem_append.1 he with he | he
      · rcases h e he with q | ⟨z, hz, u, q⟩
        · exact Or.inl q
        · exact Or.inr ⟨z, List.mem_append_left _ hz, u, q⟩
      · simp only [List.mem_singleton] at he
        subst he
        exact Or.inr ⟨x, List.mem_append_left _ hx, t, rfl, hf⟩
theorem Par.fold [DecidableEq α] {f : α → Int → Option α} {x : α × List Int} : ∀ (P : List Int) (acc : List (α × List Int)), Par f acc → x ∈ acc → Par f (P.foldl (addS f x) acc)
  | [], _, h, _ => h
  | t :: P, acc, h, hx => by
    obtain ⟨h1, h2⟩ := h.add hx t
    exact Par.fold P _ h1 h2
theorem Par.bfs [DecidableEq α] {f : α → Int → Option α} {S : List Int} : ∀ (k i : Nat) (acc : List (α × List Int)), Par f acc → Par f (bfs f S k i acc)
  | 0, _, _, h => h
  | k + 1, i, acc, h => by
    unfold Pl.bfs
    cases hx : acc[i]? with
    | none => exact h
    | some x => exact Par.bfs k (i + 1) _ (h.fold S _ (mem_at hx))
theorem par_start (f : α → Int → Option α) (s0 : α) : Par f [(s0, [])] := fun e he => by
  simp only [List.mem_singleton] at he
  subst he
  exact Or.inl rfl
/-- the walk to a state, but for its last step, is the walk to the state before -/
theorem par_last [DecidableEq α] {f : α → Int → Option α} {S : List Int} {s0 : α} {i : Nat} {R : List (α × List Int)} (h : Bf f S s0 i R) (g : Par f R) {y : α} {v : List Int} {t : Int} (hy : (y, v ++ [t]) ∈ R) : ∃ z, (z, v) ∈ R ∧ f z t = some y := by
  rcases g _ hy with q | ⟨x, hx, u, q, r⟩
  · simp at q
  · simp only at q r
    obtain ⟨e1, e2⟩ := List.append_inj' q rfl
    simp only [List.cons.injEq, and_true] at e2
    subst e2
    refine ⟨x.1, ?_, r⟩
    rw [e1]
    exact hx
/-- only the first state has no steps -/
theorem par_first {f : α → Int → Option α} {S : List Int} {s0 : α} {i : Nat} {R : List (α × List Int)} (h : Bf f S s0 i R) {y : α} {v : List Int} (hy : (y, v) ∈ R) : y = s0 ↔ v = [] := by
  constructor
  · intro e
    subst e
    exact nodup_one h.nd hy (mem_at h.hd)
  · intro e
    subst e
    have := (h.run _ hy).1
    simpa [runs] using this.symm
end Pl

/- Layer 3, plain: walksFrom's two loops, and its map of arrivals. -/
namespace Pl

/-- what the map of arrivals says of the walks that were found -/
def AccF (acc : List (St × List Int)) (f : St → Option (St × Int)) : Prop :=
  (∀ y, (f y).isSome = decide (y ∈ acc.map Prod.fst)) ∧ ∀ y v t, (y, v ++ [t]) ∈ acc → ∃ x, (x, v) ∈ acc ∧ f y = some (x, t)
theorem accF_start (s0 : St) (a : St × Int) : AccF [(s0, [])] (fun z => if z = s0 then some a else none) := by
  refine ⟨fun y => ?_, fun y v t h => ?_⟩
  · by_cases e : y = s0 <;> simp [e]
  · simp only [List.mem_singleton, Prod.mk.injEq] at h
    exact absurd h.2 (by simp)
theorem AccF.add {acc : List (St × List Int)} {f : St → Option (St × Int)} (h : AccF acc f) {x : St × List Int} (hx : x ∈ acc) (t : Int) {y : St} (hy : y ∉ acc.map Prod.fst) :
    AccF (acc ++ [(y, x.2 ++ [t])]) (fun z => if z = y then some (x.1, t) else f z) := by
  refine ⟨fun z => ?_, fun z v u hz => ?_⟩
  · by_cases e : z = y
    · simp [e]
    · have := h.1 z
      simp only [e, if_false, this, List.map_append, List.map_cons, List.map_nil, List.mem_append, List.mem_singleton, or_false]
  · rcases List.mem_append.1 hz with hz | hz
    · obtain ⟨b, hb, he⟩ := h.2 z v u hz
      refine ⟨b, List.mem_append_left _ hb, ?_⟩
      have : z ≠ y := fun e => hy (e ▸ List.mem_map.2 ⟨_, hz, rfl⟩)
      simp only [this, if_false]
      exact he
    · simp only [List.mem_singleton, Prod.mk.injEq] at hz
      obtain ⟨rfl, e⟩ := hz
      obtain ⟨e1, e2⟩ := List.append_inj' e rfl
      simp only [List.cons.injEq, and_true] at e2
      subst e2
      refine ⟨x.1, List.mem_append_left _ (by rw [e1]; exact hx), by simp⟩
theorem AccF.none {acc : List (St × List Int)} {f : St → Option (St × Int)} (h : AccF acc f) {y : St} (hy : y ∉ acc.map Prod.fst) : f y = none := by
  have := h.1 y
  rw [decide_eq_false hy] at this
  cases hf : f y with
  | none => rfl
  | some _ => rw [hf] at this; cases this
theorem AccF.some {acc : List (St × List Int)} {f : St → Option (St × Int)} (h : AccF acc f) {y : St} (hy : y ∈ acc.map Prod.fst) : (f y).isSome = true := by rw [h.1 y, decide_eq_true hy]

/-- the inner loop, behind some steps -/
def inn (L : List Wk) (x : St × List Int) (acc : List (St × List Int)) (j : Nat) : List (St × List Int) := ((stps L.length).take j).foldl (addS (adv L) x) acc
theorem inn_zero (L : List Wk) (x : St × List Int) (acc : List (St × List Int)) : inn L x acc 0 = acc := rfl
theorem stps_len (n : Nat) : (stps n).length = 2 * n := by unfold stps; simp
theorem stps_at {n j : Nat} (h : j < 2 * n) : (stps n)[j]? = some ((j : Int) - n) := by
  unfold stps
  rw [List.getElem?_map, List.getElem?_range h]
  rfl
theorem inn_succ {L : List Wk} (x : St × List Int) (acc : List (St × List Int)) {j : Nat} (h : j < 2 * L.length) : inn L x acc (j + 1) = addS (adv L) x (inn L x acc j) ((j : Int) - L.length) := by
  unfold inn
  rw [List.take_add_one, stps_at h, Option.toList_some, List.foldl_append]
  rfl
theorem inn_all (L : List Wk) (x : St × List Int) (acc : List (St × List Int)) {j : Nat} (h : 2 * L.length ≤ j) : inn L x acc j = (stps L.length).foldl (addS (adv L) x) acc := by
  unfold inn
  rw [List.take_of_length_le (by rw [stps_len]; exact h)]
theorem inn_bf {L : List Wk} {s0 : St} {i : Nat} {x : St × List Int} {acc : List (St × List Int)} (h : Bf (adv L) (stps L.length) s0 i acc) (hx : acc[i]? = some x) (j : Nat) : Bf (adv L) (stps L.length) s0 i (inn L x acc j) ∧ (inn L x acc j)[i]? = some x := by
  obtain ⟨h1, h2, _⟩ := Bf.fold ((stps L.length).take j) acc (fun t ht => List.mem_of_mem_take ht) h hx
  exact ⟨h1, h2⟩
/-- all states that are found are states of the shop -/
theorem bf_in {m : Int} {L : List Wk} (hW : Ok m L) {p : Int} (hp : 0 ≤ p ∧ p < m) {i : Nat} {acc : List (St × List Int)} (h : Bf (adv L) (stps L.length) (start p) i acc) {e : St × List Int} (he : e ∈ acc) : (0 ≤ e.1.p ∧ e.1.p < m) ∧ e.1.t < 8 := by
  obtain ⟨h1, h2⟩ := h.run e he
  have := runs_in hW e.2 _ _ h2 (by unfold start; simp only; omega) h1
  exact ⟨this.2 hp, this.1⟩
theorem bf_len {m : Int} (hm : m ≤ 6) {L : List Wk} (hW : Ok m L) {p : Int} (hp : 0 ≤ p ∧ p < m) {i : Nat} {acc : List (St × List Int)} (h : Bf (adv L) (stps L.length) (start p) i acc) : acc.length ≤ 96 := by
  have := nodup_le h.nd (U := univ m) (fun a ha => by
    obtain ⟨e, he, rfl⟩ := List.mem_map.1 ha
    exact mem_univ (bf_in hW hp h he))
  have h2 := univ_len hm
  simp at this
  omega
theorem bfs_more {L : List Wk} {i : Nat} {acc : List (St × List Int)} {x : St × List Int} (hx : acc[i]? = some x) (h : i ≤ 96) : bfs (adv L) (stps L.length) (97 - i) i acc = bfs (adv L) (stps L.length) (97 - (i + 1)) (i + 1) ((stps L.length).foldl (addS (adv L) x) acc) := by
  obtain ⟨k, hk⟩ : ∃ k, 97 - i = k + 1 := ⟨96 - i, by omega⟩
  have : 97 - (i + 1) = k := by omega
  rw [hk, this, bfs, hx]
theorem bfs_done {L : List Wk} {k i : Nat} {acc : List (St × List Int)} (h : acc.length ≤ i) : bfs (adv L) (stps L.length) k i acc = acc := by
  cases k with
  | zero => rfl
  | succ k => rw [bfs, List.getElem?_eq_none h]
end Pl

/- Contracts of package plate: walksFrom. -/
namespace Go.Proofs.YtmkjmpkicmadcaaDoor
open Go.RowKit

def stCells (Y : List Pl.St) : List Value := Y.flatMap fun y => [.int .i64 y.p, .int .i64 (y.t : Int), .bool y.m]
theorem stCells_append (L L2 : List Pl.St) : stCells (L ++ L2) = stCells L ++ stCells L2 := by unfold stCells; rw [List.flatMap_append]
theorem stCells_one (g : Pl.St) : stCells [g] = [.int .i64 g.p, .int .i64 (g.t : Int), .bool g.m] := rfl
theorem stCells_len (L : List Pl.St) : (stCells L).length = L.length * 3 := by
  induction L with
  | nil => rfl
  | cons l r ih => unfold stCells at *; rw [List.flatMap_cons, List.length_append, ih]; simp; omega
theorem stCells_get : ∀ {L : List Pl.St} {k : Nat} {y : Pl.St}, L[k]? = some y → (stCells L)[k * 3]? = some (.int .i64 y.p) ∧ (stCells L)[k * 3 + 1]? = some (.int .i64 (y.t : Int)) ∧ (stCells L)[k * 3 + 2]? = some (.bool y.m)
  | [], _, _, h => by simp at h
  | l :: r, 0, y, h => by simp at h; subst h; exact ⟨rfl, rfl, rfl⟩
  | l :: r, k + 1, y, h => by
    have ih := stCells_get (L := r) (k := k) (y := y) (by simpa using h)
    have e : stCells (l :: r) = .int .i64 l.p :: .int .i64 (l.t : Int) :: .bool l.m :: stCells r := rfl
    have e0 : (k + 1) * 3 = k * 3 + 1 + 1 + 1 := by omega
    rw [e, e0]
    simp only [List.getElem?_cons_succ]
    exact ⟨ih.1, ih.2.1, ih.2.2⟩
/-- states in a row, wherever they lie -/
def StsAt (w : World) (a : Option Addr) (Y : List Pl.St) : Prop := ∀ (k : Nat) (y : Pl.St), Y[k]? = some y → ∃ x, a = some x ∧ w.cell? (x.add (k * 3)) = some (.int .i64 y.p) ∧ w.cell? ⟨(x.add (k * 3)).block, (x.add (k * 3)).off + 1, none⟩ = some (.int .i64 (y.t : Int)) ∧ w.cell? ⟨(x.add (k * 3)).block, (x.add (k * 3)).off + 2, none⟩ = some (.bool y.m)
theorem StsAt.below {w W : World} {a : Option Addr} {Y : List Pl.St} (h : StsAt w a Y) (hb : Below w.heap.size w W) : StsAt W a Y := fun k y hk => by
  obtain ⟨x, rfl, h1, h2, h3⟩ := h k y hk
  exact ⟨x, rfl, kept1 h1 hb, kept1 h2 hb, kept1 h3 hb⟩
theorem sts_of_owns {w : World} {B : Nat} {v : Value} {Y : List Pl.St} {n : Nat} (hn : Y.length = n) (h : w.ownsRow B 80 3 v n (stCells Y)) : ∃ a cap, v = .slice a n cap ∧ StsAt w a Y := by
  obtain ⟨_, h2⟩ := h
  rcases h2 with ⟨hv, h0⟩ | ⟨g, cap, cur, hv, hb, hg, hle, hcm, hs, ht⟩
  · refine ⟨none, 0, by rw [hv, h0], fun k y hk => ?_⟩
    have := (List.getElem?_eq_some_iff.1 hk).1
    omega
  · refine ⟨_, cap, hv, fun k y hk => ⟨_, rfl, ?_⟩⟩
    have hc : ∀ j u, (stCells Y)[j]? = some u → w.cell? ⟨g, j, none⟩ = some u := by
      intro j u hu
      have hj : j < n * 3 := by rw [← hn, ← stCells_len]; exact (List.getElem?_eq_some_iff.1 hu).1
      rw [← ht, List.getElem?_take_of_lt hj, Array.getElem?_toList] at hu
      simp [World.cell?, hg, hu]
    obtain ⟨g1, g2, g3⟩ := stCells_get hk
    have e : (⟨g, 0, none⟩ : Addr).add (k * 3) = ⟨g, k * 3, none⟩ := by unfold Addr.add; split <;> simp_all
    rw [e]
    exact ⟨hc _ _ g1, hc _ _ g2, hc _ _ g3⟩

/-- the world in walksFrom -/
structure WSt (w W : World) (s m : Int) (a : Option Addr) (q cap : Nat) (Y : List Pl.St) (f : Pl.St → Option (Pl.St × Int)) (mb wb : Nat) : Prop where
  s0 : W.cell? ⟨w.heap.size, 0, none⟩ = some (.int .i64 s)
  s1 : W.cell? ⟨w.heap.size, 1, none⟩ = some (.int .i64 m)
  s2 : W.cell? ⟨w.heap.size, 2, none⟩ = some (.slice a q cap)
  r : W.rowIs (w.heap.size + 1) 88 2 (fun i => if i = 0 then .slice none 0 0 else .map none)
  o : ∃ v, W.cell? ⟨wb, 0, none⟩ = some v ∧ W.ownsRow (w.heap.size + 3) 80 3 v Y.length (stCells Y) ∧ v.ownBlock ≠ some mb ∧ v.ownBlock ≠ some wb
  m1 : W.cell? ⟨wb, 1, none⟩ = some (.map (some mb))
  f0 : W.frozen? ⟨wb, 0, none⟩ = false
  am : ∃ n, AM W mb n f
  b : Below w.heap.size w W
  hm : w.heap.size + 3 ≤ mb
  hw : w.heap.size + 3 ≤ wb
theorem WSt.ne {w W : World} {s m : Int} {a : Option Addr} {q cap : Nat} {Y : List Pl.St} {f : Pl.St → Option (Pl.St × Int)} {mb wb : Nat} (h : WSt w W s m a q cap Y f mb wb) : wb ≠ mb := fun e => by
  obtain ⟨_, es, cl, hh, _⟩ := h.am
  have := cells_of_cell h.m1 (o := _) (by rw [← e] at hh; exact hh)
  cases this
theorem WSt.but {T : Nat → Prop} {w W W' : World} {s m : Int} {a : Option Addr} {q cap : Nat} {Y : List Pl.St} {f f' : Pl.St → Option (Pl.St × Int)} {mb wb : Nat} (h : WSt w W s m a q cap Y f mb wb) (hb : But T W W') (h0 : ∀ k, k < w.heap.size + 3 → ¬ T k) (hw : ¬ T wb) (ho : ∀ v g, W.cell? ⟨wb, 0, none⟩ = some v → v.ownBlock = some g → ¬ T g) (ha : ∃ n, AM W' mb n f') : WSt w W' s m a q cap Y f' mb wb := by
  obtain ⟨v, d0, o, n1, n2⟩ := h.o
  exact ⟨hb.kept h.s0 (h0 _ (by simp only; omega)), hb.kept h.s1 (h0 _ (by simp only; omega)), hb.kept h.s2 (h0 _ (by simp only; omega)), hb.row h.r (h0 _ (by omega)), ⟨v, hb.kept d0 hw, ownBut o hb (ho v · d0), n1, n2⟩, hb.kept h.m1 hw, (hb.frozen (p := ⟨wb, 0, none⟩) (block_lt_of_cell d0) hw).trans h.f0, ha, h.b.trans (hb.below h.b.size (fun k hk => h0 k (by omega))), h.hm, h.hw⟩
theorem WSt.below {w W W' : World} {s m : Int} {a : Option Addr} {q cap : Nat} {Y : List Pl.St} {f : Pl.St → Option (Pl.St × Int)} {mb wb : Nat} (h : WSt w W s m a q cap Y f mb wb) (hb : Below W.heap.size W W') : WSt w W' s m a q cap Y f mb wb := by
  obtain ⟨n, ha⟩ := h.am
  exact h.but (T := fun _ => False) ((But.of_below hb).mono (fun _ _ h => h)) (fun _ _ h => h) id (fun _ _ _ _ h => h) ⟨n, ha.below hb⟩
theorem WSt.put {w W W' : World} {s m : Int} {a : Option Addr} {q cap : Nat} {Y : List Pl.St} {f f' : Pl.St → Option (Pl.St × Int)} {mb wb n : Nat} (h : WSt w W s m a q cap Y f mb wb) (ht : W.mapTurned W' mb) (ha : AM W' mb n f') : WSt w W' s m a q cap Y f' mb wb := by
  have hm := h.hm
  obtain ⟨v0, d1, _, n1, _⟩ := h.o
  refine h.but (T := fun k => k = mb) ⟨ht.grown.os, ht.grown.tape, ht.grown.output, ht.grown.size, fun k _ hk => turned_block ht hk⟩ (fun k hk e => by omega) h.ne (fun v g d hv e => ?_) ⟨n, ha⟩
  rw [d1] at d
  obtain rfl := Option.some.inj d
  exact n1 (by rw [hv, e])
theorem WSt.app {w W w4 : World} {s m : Int} {a : Option Addr} {q cap : Nat} {Y : List Pl.St} {f : Pl.St → Option (Pl.St × Int)} {mb wb : Nat} (h : WSt w W s m a q cap Y f mb wb) {v v' : Value} {o : Obj} (d : W.cell? ⟨wb, 0, none⟩ = some v) {y : Pl.St}
    (hown : w4.ownsRow (w.heap.size + 3) 80 3 v' (Y.length + 1) (stCells Y ++ [.int .i64 y.p, .int .i64 (y.t : Int), .bool y.m])) (hgrow : (W.alloc o).grownBy w4 v.ownBlock) (hat : v'.ownBlock = v.ownBlock ∨ v'.ownBlock = some (W.heap.size + 1)) :
    w4.cell? ⟨wb, 0, none⟩ = some v ∧ w4.frozen? ⟨wb, 0, none⟩ = false ∧ WSt w (w4.setCell ⟨wb, 0, none⟩ v') s m a q cap (Y ++ [y]) f mb wb := by
  obtain ⟨v0, d1, ho, n1, n2⟩ := h.o
  rw [d] at d1
  obtain rfl := Option.some.inj d1
  obtain ⟨n, ha⟩ := h.am
  have hA := h.below (below_alloc (Below.refl W.heap.size W) o)
  have hbt := butGrown hgrow
  have hm := h.hm
  have hw := h.hw
  have hmw := h.ne
  have wlt := block_lt_of_cell d
  have mlt := ha.lt
  simp only at wlt
  have hfar : ∀ k, k < w.heap.size + 3 → ¬ v.ownBlock = some k := fun k hk e => by have := ownFar ho e; omega
  have q0 := hbt.kept hA.m1 n2
  have c0 := hbt.kept (cell_alloc d o) n2
  have q1 := (hbt.frozen (p := ⟨wb, 0, none⟩) (block_lt_of_cell (cell_alloc d o)) n2).trans hA.f0
  have e1 : stCells (Y ++ [y]) = stCells Y ++ [.int .i64 y.p, .int .i64 (y.t : Int), .bool y.m] := by rw [stCells_append]; rfl
  have nv : ∀ g, v'.ownBlock = some g → g ≠ mb ∧ g ≠ wb := fun g hg => by
    rcases hat with hh | hh
    · exact ⟨fun e => n1 (by rw [← hh, hg, e]), fun e => n2 (by rw [← hh, hg, e])⟩
    · rw [hh] at hg
      have := Option.some.inj hg
      omega
  have hbs : But (fun k => k = wb) w4 (w4.setCell ⟨wb, 0, none⟩ v') := (But.refl (fun k => k = wb) w4).setCell (p := ⟨wb, 0, none⟩) (.inr rfl) _
  have hall : But (fun k => v.ownBlock = some k ∨ k = wb) (W.alloc o) (w4.setCell ⟨wb, 0, none⟩ v') := (hbt.mono (fun _ _ h => .inl h)).trans (hbs.mono (fun _ _ h => .inr h))
  have h0 : ∀ k, k < w.heap.size + 3 → ¬ (v.ownBlock = some k ∨ k = wb) := fun k hk e => e.elim (hfar k hk) (fun e => by omega)
  refine ⟨c0, q1, ⟨hall.kept hA.s0 (h0 _ (by simp only; omega)), hall.kept hA.s1 (h0 _ (by simp only; omega)), hall.kept hA.s2 (h0 _ (by simp only; omega)), hall.row hA.r (h0 _ (by omega)), ⟨v', ?_, ?_, fun e => (nv _ e).1 rfl, fun e => (nv _ e).2 rfl⟩, ?_, ?_, ⟨n, ?_⟩, hA.b.trans (hall.below hA.b.size (fun k hk => h0 k (by omega))), h.hm, h.hw⟩⟩
  · simp [go_sem, c0]
  · rw [e1, List.length_append]
    exact ownBut hown hbs (fun g hg => (nv g hg).2)
  · exact (World.cell?_setCell_other _ _ _ _ (by simp)).trans q0
  · simp [go_sem, q1]
  · obtain ⟨n', ha'⟩ := hA.am
    exact (ha.below (below_alloc (Below.refl _ _) o)).kept (hall.block mb (by simp; omega) (fun e => e.elim n1 (fun e => hmw e.symm)))
/-- the state whose steps are tried, in its box -/
structure AtS (W : World) (ab wb : Nat) (y : Pl.St) : Prop where
  r : SA W ab y
  v : ∃ v, W.cell? ⟨wb, 0, none⟩ = some v ∧ v.ownBlock ≠ some ab
theorem AtS.but {T : Nat → Prop} {W W' : World} {ab wb : Nat} {y : Pl.St} (h : AtS W ab wb y) (hb : But T W W') (h1 : ¬ T ab) (h2 : ¬ T wb) : AtS W' ab wb y := by
  obtain ⟨v, d, n⟩ := h.v
  exact ⟨hb.row h.r h1, v, hb.kept d h2, n⟩
theorem AtS.below {W W' : World} {ab wb : Nat} {y : Pl.St} (h : AtS W ab wb y) (hb : Below W.heap.size W W') : AtS W' ab wb y := h.but (T := fun _ => False) ((But.of_below hb).mono (fun _ _ h => h)) id id
theorem AtS.app {W w4 : World} {ab wb : Nat} {y : Pl.St} (h : AtS W ab wb y) (hwb : wb < ab) {v v' : Value} {o : Obj} (d : W.cell? ⟨wb, 0, none⟩ = some v) (hgrow : (W.alloc o).grownBy w4 v.ownBlock) (hat : v'.ownBlock = v.ownBlock ∨ v'.ownBlock = some (W.heap.size + 1)) (q0 : w4.cell? ⟨wb, 0, none⟩ = some v) : AtS (w4.setCell ⟨wb, 0, none⟩ v') ab wb y := by
  obtain ⟨v0, d0, n⟩ := h.v
  rw [d] at d0
  obtain rfl := Option.some.inj d0
  have hlt := h.r.lt
  have hA := h.below (below_alloc (Below.refl W.heap.size W) o)
  have hr := (butGrown hgrow).row hA.r n
  refine ⟨(((But.refl (fun k => k = wb) w4).setCell (p := ⟨wb, 0, none⟩) (.inr rfl) v').row hr (fun e => by omega)), v', by simp [go_sem, q0], fun e => ?_⟩
  rcases hat with hh | hh
  · exact n (by rw [← hh, e])
  · rw [hh] at e
    have := Option.some.inj e
    omega
theorem am_fresh {W : World} {b : Nat} (h : W.heap[b]? = some (.map #[] 0)) : AM W b 0 (fun _ => none) :=
  ⟨#[], 0, h, Nat.le_refl _, fun e he => by simp at he, fun y a h => by cases h⟩
theorem wpList_insert_am {w : World} {ops : Array Oper} {rest : List Oper} {o : Oper} {a : Act} {Q : Exit → Act → World → Prop} (hg : o.guard = none) (m k v : Operand)
    (ho : o.op = Op.insert 86 m k v) (b n : Nat) (f : Pl.St → Option (Pl.St × Int)) (hm : a.eval m = .map (some b)) (y : Pl.St) (hk : a.eval k = stV y) (c : Pl.St × Int) (hv : a.eval v = arV c) (hA : AM w b n f) (hy : KS y) (hf : f y = none)
    (h : ∀ W', AM W' b (n + 1) (fun z => if z = y then some c else f z) → w.mapTurned W' b → wpList Tryd.prog ops Q rest (a.put o.dst undef) W') : wpList Tryd.prog ops Q (o :: rest) a w := by
  obtain ⟨W', hr, h1, h2⟩ := hA.put hy hf c
  refine wpList_plain hg fun K hK => ?_
  unfold Oper.wp
  simp [execOp, ho, hm, hk, hv, hr, Result.andThen]
  exact hK _ _ (h W' h1 h2)

def stObj (p : Int) : Obj := .cells #[.int .i64 p, .int .i64 0, .bool false] 80
/-- what has been made of a slice, a map and a box -/
structure R2 (p : Int) (X W : World) (A : Option Nat) (M : Option (Nat × Bool)) (B : Option Nat) : Prop where
  b : Below X.heap.size X W
  a : ∀ g, A = some g → X.heap.size ≤ g ∧ W.heap[g]? = some (stObj p)
  m : ∀ g i, M = some (g, i) → X.heap.size ≤ g ∧ AM W g (if i = true then 1 else 0) (fun z => if i = true then (if z = Pl.start p then some ar0 else none) else none)
  w : ∀ g, B = some g → X.heap.size ≤ g ∧ W.rowIs g 88 2 (fun i => if i = 0 then .slice none 0 0 else .map none)
theorem R2.new (p : Int) (X : World) : R2 p X X none none none := ⟨Below.refl _ _, fun _ h => by (cases h), fun _ _ h => by (cases h), fun _ h => by (cases h)⟩
theorem heap_old {W : World} {o : Obj} {g : Nat} {u : Obj} (h : W.heap[g]? = some u) : (W.alloc o).heap[g]? = some u :=
  ((below_alloc (Below.refl W.heap.size W) o).block g (Array.getElem?_eq_some_iff.1 h).1).trans h
theorem R2.keep {p : Int} {X W : World} {A : Option Nat} {M : Option (Nat × Bool)} {B : Option Nat} (h : R2 p X W A M B) (o : Obj) : R2 p X (W.alloc o) A M B :=
  ⟨below_alloc h.b o, fun g hg => ⟨(h.a g hg).1, heap_old (h.a g hg).2⟩, fun g i hg => ⟨(h.m g i hg).1, (h.m g i hg).2.below (below_alloc (Below.refl _ _) o)⟩, fun g hg => ⟨(h.w g hg).1, (h.w g hg).2.alloc o⟩⟩
theorem R2.newA {p : Int} {X W : World} {M : Option (Nat × Bool)} {B : Option Nat} (h : R2 p X W none M B) : R2 p X (W.alloc (Obj.cells #[.int .i64 p, .int .i64 0, .bool false] 80)) (some W.heap.size) M B :=
  ⟨(h.keep _).b, fun g hg => by obtain rfl := Option.some.inj hg; exact ⟨h.b.size, World.alloc_heap_new W _⟩, (h.keep _).m, (h.keep _).w⟩
theorem R2.newM {p : Int} {X W : World} {A : Option Nat} {B : Option Nat} (h : R2 p X W A none B) : R2 p X (W.alloc (Obj.map #[] 0)) A (some (W.heap.size, false)) B :=
  ⟨(h.keep _).b, (h.keep _).a, fun g i hg => by
    obtain ⟨rfl, rfl⟩ := Prod.mk.inj (Option.some.inj hg)
    exact ⟨h.b.size, am_fresh (World.alloc_heap_new W _)⟩, (h.keep _).w⟩
theorem R2.newB {p : Int} {X W : World} {A : Option Nat} {M : Option (Nat × Bool)} (h : R2 p X W A M none) : R2 p X (W.alloc (Obj.cells #[.slice none 0 0, .map none] 88)) A M (some W.heap.size) :=
  ⟨(h.keep _).b, (h.keep _).a, (h.keep _).m, fun g hg => by
    obtain rfl := Option.some.inj hg
    exact ⟨h.b.size, World.rowIs_alloc W _ _ _ (fun i hi => by
      match i, hi with
      | 0, _ => rfl
      | 1, _ => rfl)⟩⟩
theorem R2.ins {p : Int} {X W : World} {A : Option Nat} {g : Nat} {B : Option Nat} (h : R2 p X W A (some (g, false)) B) (hKS : KS (Pl.start p)) :
    ∃ W', (Instr.mapUpdate 86 (.map (some g)) (.agg #[.int .i64 p, .int .i64 0, .bool false]) (.agg #[.int .i64 0, .int .i64 0, .bool false, .int .i64 0])).run Tryd.prog W = .ok () W' ∧ R2 p X W' A (some (g, true)) B := by
  obtain ⟨hg, hA⟩ := h.m g false rfl
  obtain ⟨W', hr, h1, h2⟩ := hA.put hKS rfl ar0
  have nb : ∀ k, (∃ cs t, W.heap[k]? = some (.cells cs t)) → k ≠ g := fun k ⟨cs, t, hk⟩ e => by
    obtain ⟨es, clock, hm, _⟩ := hA
    rw [e, hm] at hk
    cases hk
  refine ⟨W', hr, (h.b).trans (turned_below h2 hg), fun k hk => ⟨(h.a k hk).1, (turned_block h2 (nb k ⟨_, _, (h.a k hk).2⟩)).trans (h.a k hk).2⟩, fun k i hk => ?_, fun k hk => ⟨(h.w k hk).1, ?_⟩⟩
  · obtain ⟨rfl, rfl⟩ := Prod.mk.inj (Option.some.inj hk)
    exact ⟨hg, h1⟩
  · obtain ⟨_, hrow⟩ := h.w k hk
    refine hrow.of_block (turned_block h2 (nb k ?_))
    obtain ⟨cs, hc, _⟩ := hrow
    exact ⟨cs, _, hc⟩
theorem R2.c0 {p : Int} {X W : World} {A : Option Nat} {M : Option (Nat × Bool)} {B : Option Nat} (h : R2 p X W A M B) (g : Nat) (hg : B = some g) : W.cell? ⟨g, 0, none⟩ = some (.slice none 0 0) := (h.w g hg).2.cell (i := 0) (by omega)
theorem R2.c1 {p : Int} {X W : World} {A : Option Nat} {M : Option (Nat × Bool)} {B : Option Nat} (h : R2 p X W A M B) (g : Nat) (hg : B = some g) : W.cell? ⟨g, 1, none⟩ = some (.map none) := (h.w g hg).2.cell (i := 1) (by omega)
theorem R2.f0 {p : Int} {X W : World} {A : Option Nat} {M : Option (Nat × Bool)} {B : Option Nat} (h : R2 p X W A M B) (g : Nat) (hg : B = some g) : W.frozen? ⟨g, 0, none⟩ = false := (h.w g hg).2.frozen 0
theorem R2.f1 {p : Int} {X W : World} {A : Option Nat} {M : Option (Nat × Bool)} {B : Option Nat} (h : R2 p X W A M B) (g : Nat) (hg : B = some g) : W.frozen? ⟨g, 1, none⟩ = false := (h.w g hg).2.frozen 1
/-- the walks as they are begun with -/
structure R3 (p : Int) (X W : World) (sb mb wb : Nat) : Prop where
  b : Below X.heap.size X W
  o : W.ownsRow X.heap.size 80 3 (.slice (some ⟨sb, 0, none⟩) 1 1) 1 (stCells [Pl.start p])
  am : AM W mb 1 (fun z => if z = Pl.start p then some ar0 else none)
  w0 : W.cell? ⟨wb, 0, none⟩ = some (.slice (some ⟨sb, 0, none⟩) 1 1)
  w1 : W.cell? ⟨wb, 1, none⟩ = some (.map (some mb))
  f0 : W.frozen? ⟨wb, 0, none⟩ = false
  hm : X.heap.size ≤ mb
  hw : X.heap.size ≤ wb
  n1 : sb ≠ mb
  n2 : sb ≠ wb
theorem R2.fin {p : Int} {X W : World} {sb mb wb : Nat} (h : R2 p X W (some sb) (some (mb, true)) (some wb)) : R3 p X ((W.setCell ⟨wb, 0, none⟩ (.slice (some ⟨sb, 0, none⟩) 1 1)).setCell ⟨wb, 1, none⟩ (.map (some mb))) sb mb wb := by
  obtain ⟨ha, ca⟩ := h.a sb rfl
  obtain ⟨hm, cm⟩ := h.m mb true rfl
  obtain ⟨hw, cw⟩ := h.w wb rfl
  obtain ⟨cs, hcw, _⟩ := id cw
  have n2 : sb ≠ wb := fun e => by
    rw [e, hcw] at ca
    have := Option.some.inj ca
    simp only [stObj, Obj.cells.injEq] at this
    exact absurd this.2 (by decide)
  have n1 : sb ≠ mb := fun e => by
    obtain ⟨es, cl, hh, _⟩ := cm
    rw [e, hh] at ca
    cases ca
  have n3 : mb ≠ wb := fun e => by
    obtain ⟨es, cl, hh, _⟩ := cm
    rw [e, hcw] at hh
    cases hh
  have r2 := (cw.set 0 (.slice (some ⟨sb, 0, none⟩) 1 1)).set 1 (.map (some mb))
  have ho : W.ownsRow X.heap.size 80 3 (.slice (some ⟨sb, 0, none⟩) 1 1) 1 (stCells [Pl.start p]) :=
    ⟨rfl, .inr ⟨sb, 1, #[.int .i64 p, .int .i64 0, .bool false], rfl, ha, ca, Nat.le_refl _, by unfold maxLen; omega, rfl, rfl⟩⟩
  refine ⟨(h.b.setCell (p := ⟨wb, 0, none⟩) hw _).setCell (p := ⟨wb, 1, none⟩) hw _, ?_, ?_, r2.cell (i := 0) (by omega), r2.cell (i := 1) (by omega), r2.frozen 0, hm, hw, n1, n2⟩
  · have hB : But (fun k => k = wb) W ((W.setCell ⟨wb, 0, none⟩ (.slice (some ⟨sb, 0, none⟩) 1 1)).setCell ⟨wb, 1, none⟩ (.map (some mb))) := ((But.refl (fun k => k = wb) W).setCell (p := ⟨wb, 0, none⟩) (.inr rfl) _).setCell (p := ⟨wb, 1, none⟩) (.inr rfl) _
    obtain ⟨h1, h2⟩ := ho
    refine ⟨h1, .inr ⟨sb, 1, #[.int .i64 p, .int .i64 0, .bool false], rfl, ha, ?_, Nat.le_refl _, by unfold maxLen; omega, rfl, rfl⟩⟩
    exact (hB.block sb (Array.getElem?_eq_some_iff.1 ca).1 n2).trans ca
  · exact (cm.set ⟨wb, 0, none⟩ n3 _).set ⟨wb, 1, none⟩ n3 _

theorem infoSt : (Tryd.prog.info? 80).map (fun i => (i.zero, i.size, i.bytes)) = some (some (.agg #[.int .i64 0, .int .i64 0, .bool false]), 3, 24) := by kernel_rfl
/-- what walksFrom leaves -/
def WaPost (w : World) (L : List Pl.Wk) (p : Int) (e : Ending) (w' : World) : Prop :=
  ∃ a n cap mb f, e = .returned (.agg #[.slice a n cap, .map (some mb)]) ∧ n = (Pl.ways L p).length ∧ Hid (StsAt w' a ((Pl.ways L p).map Prod.fst)) ∧ Hid (∃ k, AM w' mb k f) ∧ Hid (Pl.AccF (Pl.ways L p) f) ∧ Below w.heap.size w w'

set_option maxRecDepth 100000 in
set_option maxHeartbeats 8000000 in
theorem walksFrom_any (s m : Int) (hm1 : m ≤ 6) (a : Option Addr) (q cap : Nat) (L : List Pl.Wk) (hq : L.length = q) (hq2 : q ≤ 16) (hok : Hid (Pl.Ok m L)) (p : Int) (hp : 0 ≤ p ∧ p < m) (w : World) (hL : Hid (WksAt w a L)) :
    Calls Tryd.prog 49 #[.agg #[.int .i64 s, .int .i64 m, .slice a q cap], .int .i64 p] w (WaPost w L p) := by
  obtain ⟨i0, hi, hz0, hz1, hz2⟩ := info_parts infoSt
  have hmm : ∀ (t : TypeId) (w : World), (Instr.makeMap t none).run Tryd.prog w = .ok (.map (some w.heap.size)) (w.alloc (.map #[] 0)) := fun _ _ => rfl
  go_enter Tryd.func49, Tryd.ntmps49
  go_upto_region 2 with fail
  have hX0 : (((w.alloc (Obj.cells #[.int .i64 s, .int .i64 m, .slice a q cap] 34)).alloc (Obj.cells #[.slice none 0 0, .map none] 88)).alloc (Obj.cells #[.int .i64 p, .int .i64 0, .bool false] 80)).heap.size = w.heap.size + 3 := by simp
  have b5 : SA (((w.alloc (Obj.cells #[.int .i64 s, .int .i64 m, .slice a q cap] 34)).alloc (Obj.cells #[.slice none 0 0, .map none] 88)).alloc (Obj.cells #[.int .i64 p, .int .i64 0, .bool false] 80)) (w.heap.size + 2) (Pl.start p) := by
    have h := sa_new ((w.alloc (Obj.cells #[.int .i64 s, .int .i64 m, .slice a q cap] 34)).alloc (Obj.cells #[.slice none 0 0, .map none] 88)) (Pl.start p)
    simpa [Pl.start] using h
  have hB : Below w.heap.size w (((w.alloc (Obj.cells #[.int .i64 s, .int .i64 m, .slice a q cap] 34)).alloc (Obj.cells #[.slice none 0 0, .map none] 88)).alloc (Obj.cells #[.int .i64 p, .int .i64 0, .bool false] 80)) := below_alloc (below_alloc (below_alloc (Below.refl _ _) _) _) _
  have c0 : (((w.alloc (Obj.cells #[.int .i64 s, .int .i64 m, .slice a q cap] 34)).alloc (Obj.cells #[.slice none 0 0, .map none] 88)).alloc (Obj.cells #[.int .i64 p, .int .i64 0, .bool false] 80)).cell? ⟨w.heap.size, 0, none⟩ = some (.int .i64 s) := by simp [go_sem]
  have c1 : (((w.alloc (Obj.cells #[.int .i64 s, .int .i64 m, .slice a q cap] 34)).alloc (Obj.cells #[.slice none 0 0, .map none] 88)).alloc (Obj.cells #[.int .i64 p, .int .i64 0, .bool false] 80)).cell? ⟨w.heap.size, 1, none⟩ = some (.int .i64 m) := by simp [go_sem]
  have c2 : (((w.alloc (Obj.cells #[.int .i64 s, .int .i64 m, .slice a q cap] 34)).alloc (Obj.cells #[.slice none 0 0, .map none] 88)).alloc (Obj.cells #[.int .i64 p, .int .i64 0, .bool false] 80)).cell? ⟨w.heap.size, 2, none⟩ = some (.slice a q cap) := by simp [go_sem]
  have rW : (((w.alloc (Obj.cells #[.int .i64 s, .int .i64 m, .slice a q cap] 34)).alloc (Obj.cells #[.slice none 0 0, .map none] 88)).alloc (Obj.cells #[.int .i64 p, .int .i64 0, .bool false] 80)).rowIs (w.heap.size + 1) 88 2 (fun i => if i = 0 then .slice none 0 0 else .map none) := by
    have h := (World.rowIs_alloc (w.alloc (Obj.cells #[.int .i64 s, .int .i64 m, .slice a q cap] 34)) #[.slice none 0 0, .map none] 88 (fun i => if i = 0 then .slice none 0 0 else .map none) (fun i hi => by
      match i, hi with
      | 0, _ => rfl
      | 1, _ => rfl)).alloc (Obj.cells #[.int .i64 p, .int .i64 0, .bool false] 80)
    simpa using h
  generalize ((w.alloc (Obj.cells #[.int .i64 s, .int .i64 m, .slice a q cap] 34)).alloc (Obj.cells #[.slice none 0 0, .map none] 88)).alloc (Obj.cells #[.int .i64 p, .int .i64 0, .bool false] 80) = X at *
  have hKS : KS (Pl.start p) := ⟨⟨hp.1, by have := hp.2; show p < 6; omega⟩, by show (0 : Nat) < 8; omega⟩
  go_cut [6] from 14 to 22 (fun s6 wx => ∃ mb wb, s6 = .pointer (some ⟨wb, 0, none⟩) ∧ Hid (WSt w wx s m a q cap [Pl.start p] (fun z => if z = Pl.start p then some ar0 else none) mb wb))
  case first =>
    have e0 := b5.cell (i := 0) (by omega)
    have e1 := b5.cell (i := 1) (by omega)
    have e2 := b5.cell (i := 2) (by omega)
    simp only [Pl.start, if_true, if_false, Nat.succ_ne_self, Nat.reduceEqDiff] at e0 e1 e2
    have S0 : X.drew.cell? ⟨w.heap.size + 2, 0, none⟩ = some (.int .i64 p) ∧ X.drew.cell? ⟨w.heap.size + 2, 1, none⟩ = some (.int .i64 0) ∧ X.drew.cell? ⟨w.heap.size + 2, 2, none⟩ = some (.bool false) := ⟨e0, e1, e2⟩
    have hS4 := Lib.hid (fun (W : World) (hb : Below X.drew.heap.size X.drew W) => (⟨(hb.cell (block_lt_of_cell S0.1)).trans S0.1, (hb.cell (block_lt_of_cell S0.2.1)).trans S0.2.1, (hb.cell (block_lt_of_cell S0.2.2)).trans S0.2.2⟩ : W.cell? ⟨w.heap.size + 2, 0, none⟩ = some (.int .i64 p) ∧ W.cell? ⟨w.heap.size + 2, 1, none⟩ = some (.int .i64 0) ∧ W.cell? ⟨w.heap.size + 2, 2, none⟩ = some (.bool false)))
    have hFin : Hid (∀ (W : World) (sb mb wb : Nat), R3 p X.drew W sb mb wb → Hid (WSt w W s m a q cap [Pl.start p] (fun z => if z = Pl.start p then some ar0 else none) mb wb)) := Lib.hid (fun W sb mb wb h => Lib.hid ⟨(h.b.cell (block_lt_of_cell (w := X.drew) c0)).trans c0, (h.b.cell (block_lt_of_cell (w := X.drew) c1)).trans c1, (h.b.cell (block_lt_of_cell (w := X.drew) c2)).trans c2, Below.row' h.b rW.drew, ⟨_, h.w0, by
      have := h.o
      rw [show X.drew.heap.size = w.heap.size + 3 from hX0] at this
      exact this, fun e => h.n1 (Option.some.inj e), fun e => h.n2 (Option.some.inj e)⟩, h.w1, h.f0, ⟨1, h.am⟩, (hB.drew).trans (h.b.mono (by show _ ≤ X.heap.size; omega)), by have := h.hm; rw [show X.drew.heap.size = w.heap.size + 3 from hX0] at this; exact this, by have := h.hw; rw [show X.drew.heap.size = w.heap.size + 3 from hX0] at this; exact this⟩)
    have r0 := Lib.hid (R2.new p X.drew)
    clear e0 e1 e2 b5 c0 c1 c2 rW hB
    refine region_head_held 9 (fun w' => w'.cell? ⟨w.heap.size + 2, 0, none⟩ = some (.int .i64 p) ∧ w'.cell? ⟨w.heap.size + 2, 1, none⟩ = some (.int .i64 0) ∧ w'.cell? ⟨w.heap.size + 2, 2, none⟩ = some (.bool false)) (by kernel_rfl) (by kernel_rfl) S0 (fun hHeld => ?_)
    simp only [List.take_succ_cons, List.take_zero, List.drop_succ_cons, List.drop_zero]
    refine wpAnyH_take (i := 0) (v := ?_) rfl (by kernel_rfl) (by kernel_rfl) (by kernel_rfl) (fun _ _ _ h => h) (Or.inl ⟨by rfl, ?_⟩) (by assumption) ?_
    rotate_left 1
    · (intro w hSw; (try dsimp only at hSw); go_simp; all_goals with_reducible rfl)
    try simp only [Act.put, List.setIfInBounds_toArray, List.set_cons_zero, List.set_cons_succ]
    refine wpAnyH_take (i := 3) (v := ?_) rfl (by kernel_rfl) (by kernel_rfl) (by kernel_rfl) (fun _ _ _ h => h) (Or.inl ⟨by rfl, ?_⟩) (by assumption) ?_
    rotate_left 1
    · (intro w hSw; (try dsimp only at hSw); go_simp; all_goals with_reducible rfl)
    try simp only [Act.put, List.setIfInBounds_toArray, List.set_cons_zero, List.set_cons_succ]
    refine wpAnyH_take (i := 4) (v := ?_) rfl (by kernel_rfl) (by kernel_rfl) (by kernel_rfl) (fun _ _ _ h => h) (Or.inl ⟨by rfl, ?_⟩) (by assumption) ?_
    rotate_left 1
    · (intro w hSw; (try dsimp only at hSw); go_simp; all_goals with_reducible rfl)
    try simp only [Act.put, List.setIfInBounds_toArray, List.set_cons_zero, List.set_cons_succ]
    generalize X.drew = Y0 at *
    -- the orders
    refine wpAnyH_ready (rs := [1, 2, 8]) (by kernel_rfl) (by simp) ?_
    refine AllReadyH.cons rfl (fun K hK => ?_) (AllReadyH.cons rfl (fun K hK => ?_) (AllReadyH.cons rfl (fun K hK => ?_) (AllReadyH.nil)))
    · have hq := Lib.hid r0.out.newA
      have hb2 := Lib.hid hq.out.b
      go_simp
      refine hK.out _ _ (hS4.out _ hb2.out) (fun hH1 => ?_)
      generalize Y0.alloc (Obj.cells #[.int .i64 p, .int .i64 0, .bool false] 80) = Y1 at *
      have r1 := hq
      clear hK K hq hb2 r0
      try simp only [Act.put, List.setIfInBounds_toArray, List.set_cons_succ, List.set_cons_zero]
      refine wpAnyH_ready (rs := [2, 8]) (by kernel_rfl) (by simp) ?_
      refine AllReadyH.cons rfl (fun K hK => ?_) (AllReadyH.cons rfl (fun K hK => ?_) (AllReadyH.nil))
      · have hq := Lib.hid r1.out.newM
        have hb2 := Lib.hid hq.out.b
        go_simp
        refine hK.out _ _ (hS4.out _ hb2.out) (fun hH2 => ?_)
        generalize Y1.alloc (Obj.map #[] 0) = Y2 at *
        have r2 := hq
        clear hK K hq hb2 r1
        try simp only [Act.put, List.setIfInBounds_toArray, List.set_cons_succ, List.set_cons_zero]
        refine wpAnyH_ready (rs := [5, 8]) (by kernel_rfl) (by simp) ?_
        refine AllReadyH.cons rfl (fun K hK => ?_) (AllReadyH.cons rfl (fun K hK => ?_) (AllReadyH.nil))
        · obtain ⟨Y3, hr, hq⟩ := r2.out.ins hKS
          have hb2 := Lib.hid hq.b
          replace hq := Lib.hid hq
          go_simp
          refine hK.out _ _ (hS4.out _ hb2.out) (fun hH3 => ?_)
          have r3 := hq
          clear hK K hr hq hb2 r2
          try simp only [Act.put]
          refine wpAnyH_take (i := 6) (v := ?_) rfl (by kernel_rfl) (by kernel_rfl) (by kernel_rfl) (fun _ _ _ h => h) (Or.inl ⟨by rfl, ?_⟩) (by assumption) ?_
          rotate_left 1
          · (intro w hSw; (try dsimp only at hSw); go_simp; all_goals with_reducible rfl)
          try simp only [Act.put, List.setIfInBounds_toArray, List.set_cons_zero, List.set_cons_succ]
          refine wpAnyH_take (i := 7) (v := ?_) rfl (by kernel_rfl) (by kernel_rfl) (by kernel_rfl) (fun _ _ _ h => h) (Or.inl ⟨by rfl, ?_⟩) (by assumption) ?_
          rotate_left 1
          · (intro w hSw; (try dsimp only at hSw); go_simp; all_goals with_reducible rfl)
          try simp only [Act.put, List.setIfInBounds_toArray, List.set_cons_zero, List.set_cons_succ]
          refine wpAnyH_ready (rs := [8]) (by kernel_rfl) (by simp) ?_
          refine AllReadyH.cons rfl (fun K hK => ?_) (AllReadyH.nil)
          · have hq := Lib.hid r3.out.newB
            have hb2 := Lib.hid hq.out.b
            go_simp
            refine hK.out _ _ (hS4.out _ hb2.out) (fun hH4 => ?_)
            generalize Y3.alloc (Obj.cells #[.slice none 0 0, .map none] 88) = Y4 at *
            have r4 := hq
            clear hK K hq hb2 r3
            try simp only [Act.put, List.setIfInBounds_toArray, List.set_cons_succ, List.set_cons_zero]
            refine wpAnyH_done (by kernel_rfl) ?_ _
            show wpList _ _ _ _ _ _
            have hfin := Lib.hid (r4.out.fin)
            have z0 := r4.out.c0 _ rfl
            have z1 := r4.out.c1 _ rfl
            have z2 := r4.out.f0 _ rfl
            have z3 := r4.out.f1 _ rfl
            clear r4
            go_wp2
            go_meet
            exact ⟨_, _, rfl, hFin.out _ _ _ _ hfin.out⟩
        · have hq := Lib.hid r2.out.newB
          have hb2 := Lib.hid hq.out.b
          go_simp
          refine hK.out _ _ (hS4.out _ hb2.out) (fun hH5 => ?_)
          generalize Y2.alloc (Obj.cells #[.slice none 0 0, .map none] 88) = Y5 at *
          have r5 := hq
          clear hK K hq hb2 r2
          try simp only [Act.put, List.setIfInBounds_toArray, List.set_cons_succ, List.set_cons_zero]
          refine wpAnyH_ready (rs := [5]) (by kernel_rfl) (by simp) ?_
          refine AllReadyH.cons rfl (fun K hK => ?_) (AllReadyH.nil)
          · obtain ⟨Y6, hr, hq⟩ := r5.out.ins hKS
            have hb2 := Lib.hid hq.b
            replace hq := Lib.hid hq
            go_simp
            refine hK.out _ _ (hS4.out _ hb2.out) (fun hH6 => ?_)
            have r6 := hq
            clear hK K hr hq hb2 r5
            try simp only [Act.put]
            refine wpAnyH_take (i := 6) (v := ?_) rfl (by kernel_rfl) (by kernel_rfl) (by kernel_rfl) (fun _ _ _ h => h) (Or.inl ⟨by rfl, ?_⟩) (by assumption) ?_
            rotate_left 1
            · (intro w hSw; (try dsimp only at hSw); go_simp; all_goals with_reducible rfl)
            try simp only [Act.put, List.setIfInBounds_toArray, List.set_cons_zero, List.set_cons_succ]
            refine wpAnyH_take (i := 7) (v := ?_) rfl (by kernel_rfl) (by kernel_rfl) (by kernel_rfl) (fun _ _ _ h => h) (Or.inl ⟨by rfl, ?_⟩) (by assumption) ?_
            rotate_left 1
            · (intro w hSw; (try dsimp only at hSw); go_simp; all_goals with_reducible rfl)
            try simp only [Act.put, List.setIfInBounds_toArray, List.set_cons_zero, List.set_cons_succ]
            refine wpAnyH_done (by kernel_rfl) ?_ _
            show wpList _ _ _ _ _ _
            have hfin := Lib.hid (r6.out.fin)
            have z0 := r6.out.c0 _ rfl
            have z1 := r6.out.c1 _ rfl
            have z2 := r6.out.f0 _ rfl
            have z3 := r6.out.f1 _ rfl
            clear r6
            go_wp2
            go_meet
            exact ⟨_, _, rfl, hFin.out _ _ _ _ hfin.out⟩
      · have hq := Lib.hid r1.out.newB
        have hb2 := Lib.hid hq.out.b
        go_simp
        refine hK.out _ _ (hS4.out _ hb2.out) (fun hH7 => ?_)
        generalize Y1.alloc (Obj.cells #[.slice none 0 0, .map none] 88) = Y7 at *
        have r7 := hq
        clear hK K hq hb2 r1
        try simp only [Act.put, List.setIfInBounds_toArray, List.set_cons_succ, List.set_cons_zero]
        refine wpAnyH_ready (rs := [2]) (by kernel_rfl) (by simp) ?_
        refine AllReadyH.cons rfl (fun K hK => ?_) (AllReadyH.nil)
        · have hq := Lib.hid r7.out.newM
          have hb2 := Lib.hid hq.out.b
          go_simp
          refine hK.out _ _ (hS4.out _ hb2.out) (fun hH8 => ?_)
          generalize Y7.alloc (Obj.map #[] 0) = Y8 at *
          have r8 := hq
          clear hK K hq hb2 r7
          try simp only [Act.put, List.setIfInBounds_toArray, List.set_cons_succ, List.set_cons_zero]
          refine wpAnyH_ready (rs := [5]) (by kernel_rfl) (by simp) ?_
          refine AllReadyH.cons rfl (fun K hK => ?_) (AllReadyH.nil)
          · obtain ⟨Y9, hr, hq⟩ := r8.out.ins hKS
            have hb2 := Lib.hid hq.b
            replace hq := Lib.hid hq
            go_simp
            refine hK.out _ _ (hS4.out _ hb2.out) (fun hH9 => ?_)
            have r9 := hq
            clear hK K hr hq hb2 r8
            try simp only [Act.put]
            refine wpAnyH_take (i := 6) (v := ?_) rfl (by kernel_rfl) (by kernel_rfl) (by kernel_rfl) (fun _ _ _ h => h) (Or.inl ⟨by rfl, ?_⟩) (by assumption) ?_
            rotate_left 1
            · (intro w hSw; (try dsimp only at hSw); go_simp; all_goals with_reducible rfl)
            try simp only [Act.put, List.setIfInBounds_toArray, List.set_cons_zero, List.set_cons_succ]
            refine wpAnyH_take (i := 7) (v := ?_) rfl (by kernel_rfl) (by kernel_rfl) (by kernel_rfl) (fun _ _ _ h => h) (Or.inl ⟨by rfl, ?_⟩) (by assumption) ?_
            rotate_left 1
            · (intro w hSw; (try dsimp only at hSw); go_simp; all_goals with_reducible rfl)
            try simp only [Act.put, List.setIfInBounds_toArray, List.set_cons_zero, List.set_cons_succ]
            refine wpAnyH_done (by kernel_rfl) ?_ _
            show wpList _ _ _ _ _ _
            have hfin := Lib.hid (r9.out.fin)
            have z0 := r9.out.c0 _ rfl
            have z1 := r9.out.c1 _ rfl
            have z2 := r9.out.f0 _ rfl
            have z3 := r9.out.f1 _ rfl
            clear r9
            go_wp2
            go_meet
            exact ⟨_, _, rfl, hFin.out _ _ _ _ hfin.out⟩
    · have hq := Lib.hid r0.out.newM
      have hb2 := Lib.hid hq.out.b
      go_simp
      refine hK.out _ _ (hS4.out _ hb2.out) (fun hH10 => ?_)
      generalize Y0.alloc (Obj.map #[] 0) = Y10 at *
      have r10 := hq
      clear hK K hq hb2 r0
      try simp only [Act.put, List.setIfInBounds_toArray, List.set_cons_succ, List.set_cons_zero]
      refine wpAnyH_ready (rs := [1, 5, 8]) (by kernel_rfl) (by simp) ?_
      refine AllReadyH.cons rfl (fun K hK => ?_) (AllReadyH.cons rfl (fun K hK => ?_) (AllReadyH.cons rfl (fun K hK => ?_) (AllReadyH.nil)))
      · have hq := Lib.hid r10.out.newA
        have hb2 := Lib.hid hq.out.b
        go_simp
        refine hK.out _ _ (hS4.out _ hb2.out) (fun hH11 => ?_)
        generalize Y10.alloc (Obj.cells #[.int .i64 p, .int .i64 0, .bool false] 80) = Y11 at *
        have r11 := hq
        clear hK K hq hb2 r10
        try simp only [Act.put, List.setIfInBounds_toArray, List.set_cons_succ, List.set_cons_zero]
        refine wpAnyH_ready (rs := [5, 8]) (by kernel_rfl) (by simp) ?_
        refine AllReadyH.cons rfl (fun K hK => ?_) (AllReadyH.cons rfl (fun K hK => ?_) (AllReadyH.nil))
        · obtain ⟨Y12, hr, hq⟩ := r11.out.ins hKS
          have hb2 := Lib.hid hq.b
          replace hq := Lib.hid hq
          go_simp
          refine hK.out _ _ (hS4.out _ hb2.out) (fun hH12 => ?_)
          have r12 := hq
          clear hK K hr hq hb2 r11
          try simp only [Act.put]
          refine wpAnyH_take (i := 6) (v := ?_) rfl (by kernel_rfl) (by kernel_rfl) (by kernel_rfl) (fun _ _ _ h => h) (Or.inl ⟨by rfl, ?_⟩) (by assumption) ?_
          rotate_left 1
          · (intro w hSw; (try dsimp only at hSw); go_simp; all_goals with_reducible rfl)
          try simp only [Act.put, List.setIfInBounds_toArray, List.set_cons_zero, List.set_cons_succ]
          refine wpAnyH_take (i := 7) (v := ?_) rfl (by kernel_rfl) (by kernel_rfl) (by kernel_rfl) (fun _ _ _ h => h) (Or.inl ⟨by rfl, ?_⟩) (by assumption) ?_
          rotate_left 1
          · (intro w hSw; (try dsimp only at hSw); go_simp; all_goals with_reducible rfl)
          try simp only [Act.put, List.setIfInBounds_toArray, List.set_cons_zero, List.set_cons_succ]
          refine wpAnyH_ready (rs := [8]) (by kernel_rfl) (by simp) ?_
          refine AllReadyH.cons rfl (fun K hK => ?_) (AllReadyH.nil)
          · have hq := Lib.hid r12.out.newB
            have hb2 := Lib.hid hq.out.b
            go_simp
            refine hK.out _ _ (hS4.out _ hb2.out) (fun hH13 => ?_)
            generalize Y12.alloc (Obj.cells #[.slice none 0 0, .map none] 88) = Y13 at *
            have r13 := hq
            clear hK K hq hb2 r12
            try simp only [Act.put, List.setIfInBounds_toArray, List.set_cons_succ, List.set_cons_zero]
            refine wpAnyH_done (by kernel_rfl) ?_ _
            show wpList _ _ _ _ _ _
            have hfin := Lib.hid (r13.out.fin)
            have z0 := r13.out.c0 _ rfl
            have z1 := r13.out.c1 _ rfl
            have z2 := r13.out.f0 _ rfl
            have z3 := r13.out.f1 _ rfl
            clear r13
            go_wp2
            go_meet
            exact ⟨_, _, rfl, hFin.out _ _ _ _ hfin.out⟩
        · have hq := Lib.hid r11.out.newB
          have hb2 := Lib.hid hq.out.b
          go_simp
          refine hK.out _ _ (hS4.out _ hb2.out) (fun hH14 => ?_)
          generalize Y11.alloc (Obj.cells #[.slice none 0 0, .map none] 88) = Y14 at *
          have r14 := hq
          clear hK K hq hb2 r11
          try simp only [Act.put, List.setIfInBounds_toArray, List.set_cons_succ, List.set_cons_zero]
          refine wpAnyH_ready (rs := [5]) (by kernel_rfl) (by simp) ?_
          refine AllReadyH.cons rfl (fun K hK => ?_) (AllReadyH.nil)
          · obtain ⟨Y15, hr, hq⟩ := r14.out.ins hKS
            have hb2 := Lib.hid hq.b
            replace hq := Lib.hid hq
            go_simp
            refine hK.out _ _ (hS4.out _ hb2.out) (fun hH15 => ?_)
            have r15 := hq
            clear hK K hr hq hb2 r14
            try simp only [Act.put]
            refine wpAnyH_take (i := 6) (v := ?_) rfl (by kernel_rfl) (by kernel_rfl) (by kernel_rfl) (fun _ _ _ h => h) (Or.inl ⟨by rfl, ?_⟩) (by assumption) ?_
            rotate_left 1
            · (intro w hSw; (try dsimp only at hSw); go_simp; all_goals with_reducible rfl)
            try simp only [Act.put, List.setIfInBounds_toArray, List.set_cons_zero, List.set_cons_succ]
            refine wpAnyH_take (i := 7) (v := ?_) rfl (by kernel_rfl) (by kernel_rfl) (by kernel_rfl) (fun _ _ _ h => h) (Or.inl ⟨by rfl, ?_⟩) (by assumption) ?_
            rotate_left 1
            · (intro w hSw; (try dsimp only at hSw); go_simp; all_goals with_reducible rfl)
            try simp only [Act.put, List.setIfInBounds_toArray, List.set_cons_zero, List.set_cons_succ]
            refine wpAnyH_done (by kernel_rfl) ?_ _
            show wpList _ _ _ _ _ _
            have hfin := Lib.hid (r15.out.fin)
            have z0 := r15.out.c0 _ rfl
            have z1 := r15.out.c1 _ rfl
            have z2 := r15.out.f0 _ rfl
            have z3 := r15.out.f1 _ rfl
            clear r15
            go_wp2
            go_meet
            exact ⟨_, _, rfl, hFin.out _ _ _ _ hfin.out⟩
      · obtain ⟨Y16, hr, hq⟩ := r10.out.ins hKS
        have hb2 := Lib.hid hq.b
        replace hq := Lib.hid hq
        go_simp
        refine hK.out _ _ (hS4.out _ hb2.out) (fun hH16 => ?_)
        have r16 := hq
        clear hK K hr hq hb2 r10
        try simp only [Act.put]
        refine wpAnyH_take (i := 6) (v := ?_) rfl (by kernel_rfl) (by kernel_rfl) (by kernel_rfl) (fun _ _ _ h => h) (Or.inl ⟨by rfl, ?_⟩) (by assumption) ?_
        rotate_left 1
        · (intro w hSw; (try dsimp only at hSw); go_simp; all_goals with_reducible rfl)
        try simp only [Act.put, List.setIfInBounds_toArray, List.set_cons_zero, List.set_cons_succ]
        refine wpAnyH_ready (rs := [1, 8]) (by kernel_rfl) (by simp) ?_
        refine AllReadyH.cons rfl (fun K hK => ?_) (AllReadyH.cons rfl (fun K hK => ?_) (AllReadyH.nil))
        · have hq := Lib.hid r16.out.newA
          have hb2 := Lib.hid hq.out.b
          go_simp
          refine hK.out _ _ (hS4.out _ hb2.out) (fun hH17 => ?_)
          generalize Y16.alloc (Obj.cells #[.int .i64 p, .int .i64 0, .bool false] 80) = Y17 at *
          have r17 := hq
          clear hK K hq hb2 r16
          try simp only [Act.put, List.setIfInBounds_toArray, List.set_cons_succ, List.set_cons_zero]
          refine wpAnyH_take (i := 7) (v := ?_) rfl (by kernel_rfl) (by kernel_rfl) (by kernel_rfl) (fun _ _ _ h => h) (Or.inl ⟨by rfl, ?_⟩) (by assumption) ?_
          rotate_left 1
          · (intro w hSw; (try dsimp only at hSw); go_simp; all_goals with_reducible rfl)
          try simp only [Act.put, List.setIfInBounds_toArray, List.set_cons_zero, List.set_cons_succ]
          refine wpAnyH_ready (rs := [8]) (by kernel_rfl) (by simp) ?_
          refine AllReadyH.cons rfl (fun K hK => ?_) (AllReadyH.nil)
          · have hq := Lib.hid r17.out.newB
            have hb2 := Lib.hid hq.out.b
            go_simp
            refine hK.out _ _ (hS4.out _ hb2.out) (fun hH18 => ?_)
            generalize Y17.alloc (Obj.cells #[.slice none 0 0, .map none] 88) = Y18 at *
            have r18 := hq
            clear hK K hq hb2 r17
            try simp only [Act.put, List.setIfInBounds_toArray, List.set_cons_succ, List.set_cons_zero]
            refine wpAnyH_done (by kernel_rfl) ?_ _
            show wpList _ _ _ _ _ _
            have hfin := Lib.hid (r18.out.fin)
            have z0 := r18.out.c0 _ rfl
            have z1 := r18.out.c1 _ rfl
            have z2 := r18.out.f0 _ rfl
            have z3 := r18.out.f1 _ rfl
            clear r18
            go_wp2
            go_meet
            exact ⟨_, _, rfl, hFin.out _ _ _ _ hfin.out⟩
        · have hq := Lib.hid r16.out.newB
          have hb2 := Lib.hid hq.out.b
          go_simp
          refine hK.out _ _ (hS4.out _ hb2.out) (fun hH19 => ?_)
          generalize Y16.alloc (Obj.cells #[.slice none 0 0, .map none] 88) = Y19 at *
          have r19 := hq
          clear hK K hq hb2 r16
          try simp only [Act.put, List.setIfInBounds_toArray, List.set_cons_succ, List.set_cons_zero]
          refine wpAnyH_ready (rs := [1]) (by kernel_rfl) (by simp) ?_
          refine AllReadyH.cons rfl (fun K hK => ?_) (AllReadyH.nil)
          · have hq := Lib.hid r19.out.newA
            have hb2 := Lib.hid hq.out.b
            go_simp
            refine hK.out _ _ (hS4.out _ hb2.out) (fun hH20 => ?_)
            generalize Y19.alloc (Obj.cells #[.int .i64 p, .int .i64 0, .bool false] 80) = Y20 at *
            have r20 := hq
            clear hK K hq hb2 r19
            try simp only [Act.put, List.setIfInBounds_toArray, List.set_cons_succ, List.set_cons_zero]
            refine wpAnyH_take (i := 7) (v := ?_) rfl (by kernel_rfl) (by kernel_rfl) (by kernel_rfl) (fun _ _ _ h => h) (Or.inl ⟨by rfl, ?_⟩) (by assumption) ?_
            rotate_left 1
            · (intro w hSw; (try dsimp only at hSw); go_simp; all_goals with_reducible rfl)
            try simp only [Act.put, List.setIfInBounds_toArray, List.set_cons_zero, List.set_cons_succ]
            refine wpAnyH_done (by kernel_rfl) ?_ _
            show wpList _ _ _ _ _ _
            have hfin := Lib.hid (r20.out.fin)
            have z0 := r20.out.c0 _ rfl
            have z1 := r20.out.c1 _ rfl
            have z2 := r20.out.f0 _ rfl
            have z3 := r20.out.f1 _ rfl
            clear r20
            go_wp2
            go_meet
            exact ⟨_, _, rfl, hFin.out _ _ _ _ hfin.out⟩
      · have hq := Lib.hid r10.out.newB
        have hb2 := Lib.hid hq.out.b
        go_simp
        refine hK.out _ _ (hS4.out _ hb2.out) (fun hH21 => ?_)
        generalize Y10.alloc (Obj.cells #[.slice none 0 0, .map none] 88) = Y21 at *
        have r21 := hq
        clear hK K hq hb2 r10
        try simp only [Act.put, List.setIfInBounds_toArray, List.set_cons_succ, List.set_cons_zero]
        refine wpAnyH_ready (rs := [1, 5]) (by kernel_rfl) (by simp) ?_
        refine AllReadyH.cons rfl (fun K hK => ?_) (AllReadyH.cons rfl (fun K hK => ?_) (AllReadyH.nil))
        · have hq := Lib.hid r21.out.newA
          have hb2 := Lib.hid hq.out.b
          go_simp
          refine hK.out _ _ (hS4.out _ hb2.out) (fun hH22 => ?_)
          generalize Y21.alloc (Obj.cells #[.int .i64 p, .int .i64 0, .bool false] 80) = Y22 at *
          have r22 := hq
          clear hK K hq hb2 r21
          try simp only [Act.put, List.setIfInBounds_toArray, List.set_cons_succ, List.set_cons_zero]
          refine wpAnyH_ready (rs := [5]) (by kernel_rfl) (by simp) ?_
          refine AllReadyH.cons rfl (fun K hK => ?_) (AllReadyH.nil)
          · obtain ⟨Y23, hr, hq⟩ := r22.out.ins hKS
            have hb2 := Lib.hid hq.b
            replace hq := Lib.hid hq
            go_simp
            refine hK.out _ _ (hS4.out _ hb2.out) (fun hH23 => ?_)
            have r23 := hq
            clear hK K hr hq hb2 r22
            try simp only [Act.put]
            refine wpAnyH_take (i := 6) (v := ?_) rfl (by kernel_rfl) (by kernel_rfl) (by kernel_rfl) (fun _ _ _ h => h) (Or.inl ⟨by rfl, ?_⟩) (by assumption) ?_
            rotate_left 1
            · (intro w hSw; (try dsimp only at hSw); go_simp; all_goals with_reducible rfl)
            try simp only [Act.put, List.setIfInBounds_toArray, List.set_cons_zero, List.set_cons_succ]
            refine wpAnyH_take (i := 7) (v := ?_) rfl (by kernel_rfl) (by kernel_rfl) (by kernel_rfl) (fun _ _ _ h => h) (Or.inl ⟨by rfl, ?_⟩) (by assumption) ?_
            rotate_left 1
            · (intro w hSw; (try dsimp only at hSw); go_simp; all_goals with_reducible rfl)
            try simp only [Act.put, List.setIfInBounds_toArray, List.set_cons_zero, List.set_cons_succ]
            refine wpAnyH_done (by kernel_rfl) ?_ _
            show wpList _ _ _ _ _ _
            have hfin := Lib.hid (r23.out.fin)
            have z0 := r23.out.c0 _ rfl
            have z1 := r23.out.c1 _ rfl
            have z2 := r23.out.f0 _ rfl
            have z3 := r23.out.f1 _ rfl
            clear r23
            go_wp2
            go_meet
            exact ⟨_, _, rfl, hFin.out _ _ _ _ hfin.out⟩
        · obtain ⟨Y24, hr, hq⟩ := r21.out.ins hKS
          have hb2 := Lib.hid hq.b
          replace hq := Lib.hid hq
          go_simp
          refine hK.out _ _ (hS4.out _ hb2.out) (fun hH24 => ?_)
          have r24 := hq
          clear hK K hr hq hb2 r21
          try simp only [Act.put]
          refine wpAnyH_take (i := 6) (v := ?_) rfl (by kernel_rfl) (by kernel_rfl) (by kernel_rfl) (fun _ _ _ h => h) (Or.inl ⟨by rfl, ?_⟩) (by assumption) ?_
          rotate_left 1
          · (intro w hSw; (try dsimp only at hSw); go_simp; all_goals with_reducible rfl)
          try simp only [Act.put, List.setIfInBounds_toArray, List.set_cons_zero, List.set_cons_succ]
          refine wpAnyH_ready (rs := [1]) (by kernel_rfl) (by simp) ?_
          refine AllReadyH.cons rfl (fun K hK => ?_) (AllReadyH.nil)
          · have hq := Lib.hid r24.out.newA
            have hb2 := Lib.hid hq.out.b
            go_simp
            refine hK.out _ _ (hS4.out _ hb2.out) (fun hH25 => ?_)
            generalize Y24.alloc (Obj.cells #[.int .i64 p, .int .i64 0, .bool false] 80) = Y25 at *
            have r25 := hq
            clear hK K hq hb2 r24
            try simp only [Act.put, List.setIfInBounds_toArray, List.set_cons_succ, List.set_cons_zero]
            refine wpAnyH_take (i := 7) (v := ?_) rfl (by kernel_rfl) (by kernel_rfl) (by kernel_rfl) (fun _ _ _ h => h) (Or.inl ⟨by rfl, ?_⟩) (by assumption) ?_
            rotate_left 1
            · (intro w hSw; (try dsimp only at hSw); go_simp; all_goals with_reducible rfl)
            try simp only [Act.put, List.setIfInBounds_toArray, List.set_cons_zero, List.set_cons_succ]
            refine wpAnyH_done (by kernel_rfl) ?_ _
            show wpList _ _ _ _ _ _
            have hfin := Lib.hid (r25.out.fin)
            have z0 := r25.out.c0 _ rfl
            have z1 := r25.out.c1 _ rfl
            have z2 := r25.out.f0 _ rfl
            have z3 := r25.out.f1 _ rfl
            clear r25
            go_wp2
            go_meet
            exact ⟨_, _, rfl, hFin.out _ _ _ _ hfin.out⟩
    · have hq := Lib.hid r0.out.newB
      have hb2 := Lib.hid hq.out.b
      go_simp
      refine hK.out _ _ (hS4.out _ hb2.out) (fun hH26 => ?_)
      generalize Y0.alloc (Obj.cells #[.slice none 0 0, .map none] 88) = Y26 at *
      have r26 := hq
      clear hK K hq hb2 r0
      try simp only [Act.put, List.setIfInBounds_toArray, List.set_cons_succ, List.set_cons_zero]
      refine wpAnyH_ready (rs := [1, 2]) (by kernel_rfl) (by simp) ?_
      refine AllReadyH.cons rfl (fun K hK => ?_) (AllReadyH.cons rfl (fun K hK => ?_) (AllReadyH.nil))
      · have hq := Lib.hid r26.out.newA
        have hb2 := Lib.hid hq.out.b
        go_simp
        refine hK.out _ _ (hS4.out _ hb2.out) (fun hH27 => ?_)
        generalize Y26.alloc (Obj.cells #[.int .i64 p, .int .i64 0, .bool false] 80) = Y27 at *
        have r27 := hq
        clear hK K hq hb2 r26
        try simp only [Act.put, List.setIfInBounds_toArray, List.set_cons_succ, List.set_cons_zero]
        refine wpAnyH_ready (rs := [2]) (by kernel_rfl) (by simp) ?_
        refine AllReadyH.cons rfl (fun K hK => ?_) (AllReadyH.nil)
        · have hq := Lib.hid r27.out.newM
          have hb2 := Lib.hid hq.out.b
          go_simp
          refine hK.out _ _ (hS4.out _ hb2.out) (fun hH28 => ?_)
          generalize Y27.alloc (Obj.map #[] 0) = Y28 at *
          have r28 := hq
          clear hK K hq hb2 r27
          try simp only [Act.put, List.setIfInBounds_toArray, List.set_cons_succ, List.set_cons_zero]
          refine wpAnyH_ready (rs := [5]) (by kernel_rfl) (by simp) ?_
          refine AllReadyH.cons rfl (fun K hK => ?_) (AllReadyH.nil)
          · obtain ⟨Y29, hr, hq⟩ := r28.out.ins hKS
            have hb2 := Lib.hid hq.b
            replace hq := Lib.hid hq
            go_simp
            refine hK.out _ _ (hS4.out _ hb2.out) (fun hH29 => ?_)
            have r29 := hq
            clear hK K hr hq hb2 r28
            try simp only [Act.put]
            refine wpAnyH_take (i := 6) (v := ?_) rfl (by kernel_rfl) (by kernel_rfl) (by kernel_rfl) (fun _ _ _ h => h) (Or.inl ⟨by rfl, ?_⟩) (by assumption) ?_
            rotate_left 1
            · (intro w hSw; (try dsimp only at hSw); go_simp; all_goals with_reducible rfl)
            try simp only [Act.put, List.setIfInBounds_toArray, List.set_cons_zero, List.set_cons_succ]
            refine wpAnyH_take (i := 7) (v := ?_) rfl (by kernel_rfl) (by kernel_rfl) (by kernel_rfl) (fun _ _ _ h => h) (Or.inl ⟨by rfl, ?_⟩) (by assumption) ?_
            rotate_left 1
            · (intro w hSw; (try dsimp only at hSw); go_simp; all_goals with_reducible rfl)
            try simp only [Act.put, List.setIfInBounds_toArray, List.set_cons_zero, List.set_cons_succ]
            refine wpAnyH_done (by kernel_rfl) ?_ _
            show wpList _ _ _ _ _ _
            have hfin := Lib.hid (r29.out.fin)
            have z0 := r29.out.c0 _ rfl
            have z1 := r29.out.c1 _ rfl
            have z2 := r29.out.f0 _ rfl
            have z3 := r29.out.f1 _ rfl
            clear r29
            go_wp2
            go_meet
            exact ⟨_, _, rfl, hFin.out _ _ _ _ hfin.out⟩
      · have hq := Lib.hid r26.out.newM
        have hb2 := Lib.hid hq.out.b
        go_simp
        refine hK.out _ _ (hS4.out _ hb2.out) (fun hH30 => ?_)
        generalize Y26.alloc (Obj.map #[] 0) = Y30 at *
        have r30 := hq
        clear hK K hq hb2 r26
        try simp only [Act.put, List.setIfInBounds_toArray, List.set_cons_succ, List.set_cons_zero]
        refine wpAnyH_ready (rs := [1, 5]) (by kernel_rfl) (by simp) ?_
        refine AllReadyH.cons rfl (fun K hK => ?_) (AllReadyH.cons rfl (fun K hK => ?_) (AllReadyH.nil))
        · have hq := Lib.hid r30.out.newA
          have hb2 := Lib.hid hq.out.b
          go_simp
          refine hK.out _ _ (hS4.out _ hb2.out) (fun hH31 => ?_)
          generalize Y30.alloc (Obj.cells #[.int .i64 p, .int .i64 0, .bool false] 80) = Y31 at *
          have r31 := hq
          clear hK K hq hb2 r30
          try simp only [Act.put, List.setIfInBounds_toArray, List.set_cons_succ, List.set_cons_zero]
          refine wpAnyH_ready (rs := [5]) (by kernel_rfl) (by simp) ?_
          refine AllReadyH.cons rfl (fun K hK => ?_) (AllReadyH.nil)
          · obtain ⟨Y32, hr, hq⟩ := r31.out.ins hKS
            have hb2 := Lib.hid hq.b
            replace hq := Lib.hid hq
            go_simp
            refine hK.out _ _ (hS4.out _ hb2.out) (fun hH32 => ?_)
            have r32 := hq
            clear hK K hr hq hb2 r31
            try simp only [Act.put]
            refine wpAnyH_take (i := 6) (v := ?_) rfl (by kernel_rfl) (by kernel_rfl) (by kernel_rfl) (fun _ _ _ h => h) (Or.inl ⟨by rfl, ?_⟩) (by assumption) ?_
            rotate_left 1
            · (intro w hSw; (try dsimp only at hSw); go_simp; all_goals with_reducible rfl)
            try simp only [Act.put, List.setIfInBounds_toArray, List.set_cons_zero, List.set_cons_succ]
            refine wpAnyH_take (i := 7) (v := ?_) rfl (by kernel_rfl) (by kernel_rfl) (by kernel_rfl) (fun _ _ _ h => h) (Or.inl ⟨by rfl, ?_⟩) (by assumption) ?_
            rotate_left 1
            · (intro w hSw; (try dsimp only at hSw); go_simp; all_goals with_reducible rfl)
            try simp only [Act.put, List.setIfInBounds_toArray, List.set_cons_zero, List.set_cons_succ]
            refine wpAnyH_done (by kernel_rfl) ?_ _
            show wpList _ _ _ _ _ _
            have hfin := Lib.hid (r32.out.fin)
            have z0 := r32.out.c0 _ rfl
            have z1 := r32.out.c1 _ rfl
            have z2 := r32.out.f0 _ rfl
            have z3 := r32.out.f1 _ rfl
            clear r32
            go_wp2
            go_meet
            exact ⟨_, _, rfl, hFin.out _ _ _ _ hfin.out⟩
        · obtain ⟨Y33, hr, hq⟩ := r30.out.ins hKS
          have hb2 := Lib.hid hq.b
          replace hq := Lib.hid hq
          go_simp
          refine hK.out _ _ (hS4.out _ hb2.out) (fun hH33 => ?_)
          have r33 := hq
          clear hK K hr hq hb2 r30
          try simp only [Act.put]
          refine wpAnyH_take (i := 6) (v := ?_) rfl (by kernel_rfl) (by kernel_rfl) (by kernel_rfl) (fun _ _ _ h => h) (Or.inl ⟨by rfl, ?_⟩) (by assumption) ?_
          rotate_left 1
          · (intro w hSw; (try dsimp only at hSw); go_simp; all_goals with_reducible rfl)
          try simp only [Act.put, List.setIfInBounds_toArray, List.set_cons_zero, List.set_cons_succ]
          refine wpAnyH_ready (rs := [1]) (by kernel_rfl) (by simp) ?_
          refine AllReadyH.cons rfl (fun K hK => ?_) (AllReadyH.nil)
          · have hq := Lib.hid r33.out.newA
            have hb2 := Lib.hid hq.out.b
            go_simp
            refine hK.out _ _ (hS4.out _ hb2.out) (fun hH34 => ?_)
            generalize Y33.alloc (Obj.cells #[.int .i64 p, .int .i64 0, .bool false] 80) = Y34 at *
            have r34 := hq
            clear hK K hq hb2 r33
            try simp only [Act.put, List.setIfInBounds_toArray, List.set_cons_succ, List.set_cons_zero]
            refine wpAnyH_take (i := 7) (v := ?_) rfl (by kernel_rfl) (by kernel_rfl) (by kernel_rfl) (fun _ _ _ h => h) (Or.inl ⟨by rfl, ?_⟩) (by assumption) ?_
            rotate_left 1
            · (intro w hSw; (try dsimp only at hSw); go_simp; all_goals with_reducible rfl)
            try simp only [Act.put, List.setIfInBounds_toArray, List.set_cons_zero, List.set_cons_succ]
            refine wpAnyH_done (by kernel_rfl) ?_ _
            show wpList _ _ _ _ _ _
            have hfin := Lib.hid (r34.out.fin)
            have z0 := r34.out.c0 _ rfl
            have z1 := r34.out.c1 _ rfl
            have z2 := r34.out.f0 _ rfl
            have z3 := r34.out.f1 _ rfl
            clear r34
            go_wp2
            go_meet
            exact ⟨_, _, rfl, hFin.out _ _ _ _ hfin.out⟩
    -- the orders' end
  case rest =>
    clear c0 c1 c2 b5 rW hB hX0 hmm hKS
    clear X
    obtain ⟨mb, wb, rfl, hW⟩ := hcut
    generalize wc = W0 at *
    clear wc
    go_wp2
    go_loopw [7] (fun iv wr => ∃ (k : Nat) (acc : List (Pl.St × List Int)) (f : Pl.St → Option (Pl.St × Int)), k ≤ acc.length ∧ iv = .int .i64 (k : Int) ∧ Hid (WSt w wr s m a q cap (acc.map Prod.fst) f mb wb) ∧ Hid (Pl.AccF acc f) ∧ Hid (Pl.Bf (Pl.adv L) (Pl.stps L.length) (Pl.start p) k acc) ∧ Hid (Pl.bfs (Pl.adv L) (Pl.stps L.length) (97 - k) k acc = Pl.ways L p)) (fun iv _ => 97 - (RowKit.intOf iv).toNat)
    case atStart => exact ⟨0, [(Pl.start p, [])], _, by simp, rfl, hW, Lib.hid (Pl.accF_start _ _), Lib.hid (Pl.bf_start _ _ _), Lib.hid rfl⟩
    case round =>
      clear hW
      clear W0
      obtain ⟨k, acc, f, hk, rfl, hW, hA, hF, hR⟩ := hrel
      have hlen := Pl.bf_len hm1 hok.out hp hF.out
      obtain ⟨v, d0, o, _, _⟩ := hW.out.o
      have hml : (acc.map Prod.fst).length = acc.length := by simp
      rw [hml] at o
      obtain ⟨a', cp, rfl, hS⟩ := sts_of_owns hml o
      clear o hml
      by_cases hlt : k < acc.length
      · have hi5 : (k : Int) < (acc.length : Int) := by omega
        have hi6 : (0 : Int) ≤ (k : Int) := by omega
        obtain ⟨⟨⟨p', t', m'⟩, v'⟩, hx⟩ : ∃ x, acc[k]? = some x := ⟨_, List.getElem?_eq_getElem hlt⟩
        obtain ⟨y, rfl, g0, g1, g2⟩ := hS k ⟨p', t', m'⟩ (by rw [List.getElem?_map, hx]; rfl)
        simp only at g0 g1 g2
        have hin := Pl.bf_in hok.out hp hF.out (List.mem_of_getElem? hx)
        simp only at hin
        have ht : t' < 8 := hin.2
        have s2 := hW.out.s2
        replace hin := Lib.hid hin
        replace hx := Lib.hid hx
        clear hS
        go_upto_region 7 with fail
        have hWA := Lib.hid (hW.out.below (below_alloc (Below.refl _ _) (Obj.cells #[.int .i64 p', .int .i64 (t' : Int), .bool m'] 80)))
        have hSA : Hid (AtS (wr.alloc (Obj.cells #[.int .i64 p', .int .i64 (t' : Int), .bool m'] 80)) wr.heap.size wb ⟨p', t', m'⟩) := Lib.hid ⟨sa_new wr ⟨p', t', m'⟩, _, cell_alloc d0 _, fun e => by
          obtain ⟨v9, d9, o9, _⟩ := hW.out.o
          rw [d0] at d9
          obtain rfl := Option.some.inj d9
          have := (o9.lt _ e).2
          omega⟩
        have hwab := block_lt_of_cell d0
        simp only at hwab
        clear d0 g0 g1 g2 hW s2
        generalize wr.alloc (Obj.cells #[.int .i64 p', .int .i64 (t' : Int), .bool m'] 80) = X at *
        generalize wr.heap.size = ab at *
        have s2 := hWA.out.s2
        have hw1 : IntKind.i64.wrap (-(q : Int)) = -(q : Int) := by rw [IntWalk.i64_left]; exact IntWalk.wrap64_in _ (by omega)
        go_wp2
        go_loopw [9] (fun st W => ∃ (j : Nat) (f : Pl.St → Option (Pl.St × Int)), j ≤ 2 * q ∧ st = .int .i64 ((j : Int) - (q : Int)) ∧ Hid (WSt w W s m a q cap ((Pl.inn L (⟨p', t', m'⟩, v') acc j).map Prod.fst) f mb wb) ∧ Hid (Pl.AccF (Pl.inn L (⟨p', t', m'⟩, v') acc j) f) ∧ Hid (AtS W ab wb ⟨p', t', m'⟩)) (fun st _ => ((q : Int) - RowKit.intOf st).toNat)
        case atStart => exact ⟨0, f, Nat.zero_le _, by go_num, hWA, hA, hSA⟩
        case round =>
          clear hWA hA hSA s2 f
          clear X
          obtain ⟨j, f, hj, rfl, hW, hA, hSA⟩ := hrel
          obtain ⟨hB, hBx⟩ := Pl.inn_bf hF.out hx.out j
          have s0 := hW.out.s0
          have s1 := hW.out.s1
          have s2 := hW.out.s2
          by_cases hlt2 : j < 2 * q
          · have hi7 : (j : Int) - (q : Int) < (q : Int) := by omega
            have hsc := Pl.inn_succ (L := L) (⟨p', t', m'⟩, v') acc (j := j) (by omega)
            rw [hq] at hsc
            have HA := advance_any s m a q cap L hq hq2 hok p' t' m' ht ((j : Int) - (q : Int)) (by omega) (by omega) wr (Lib.hid (hL.out.below hW.out.b))
            have e0 := hSA.out.r.cell (i := 0) (by omega)
            have e1 := hSA.out.r.cell (i := 1) (by omega)
            have e2 := hSA.out.r.cell (i := 2) (by omega)
            simp only [if_true, if_false, Nat.succ_ne_self, Nat.reduceEqDiff] at e0 e1 e2
            have hmem : (⟨p', t', m'⟩, v') ∈ Pl.inn L (⟨p', t', m'⟩, v') acc j := List.mem_of_getElem? hBx
            replace hmem := Lib.hid hmem
            replace hB := Lib.hid hB
            clear hBx
            have hw2 : IntKind.i64.wrap ((j : Int) - (q : Int) + 1) = (j : Int) - (q : Int) + 1 := by rw [IntWalk.i64_left]; exact IntWalk.wrap64_in _ (by omega)
            unfold Pl.addS at hsc
            have hadin : ∀ z, Pl.adv L ⟨p', t', m'⟩ ((j : Int) - (q : Int)) = some z → KS z := fun z hz => by
              have h := Pl.adv_in hok.out (s := ⟨p', t', m'⟩) (Pl.mem_stps.2 (by omega)) hin.out.2 hz
              exact ⟨⟨h.1.1, by omega⟩, h.2⟩
            simp only at hsc
            cases hadv : Pl.adv L ⟨p', t', m'⟩ ((j : Int) - (q : Int)) with
            | none =>
              rw [hadv] at HA hsc
              simp only at HA hsc
              replace HA := Lib.hid HA
              replace hsc := Lib.hid hsc
              clear hadv hadin
              go_wp2_with fail
              refine (HA.out).mono ?_
              rintro e w1 ⟨rfl, hb1⟩
              have hW1 := Lib.hid (hW.out.below hb1)
              have hS1 := Lib.hid (hSA.out.below hb1)
              have hWn : Hid (WSt w (w1.alloc (Obj.cells #[.int .i64 0, .int .i64 0, .bool false] 80)) s m a q cap ((Pl.inn L (⟨p', t', m'⟩, v') acc (j + 1)).map Prod.fst) f mb wb) := Lib.hid (by rw [hsc.out]; exact hW1.out.below (below_alloc (Below.refl _ _) _))
              have hAn : Hid (Pl.AccF (Pl.inn L (⟨p', t', m'⟩, v') acc (j + 1)) f) := Lib.hid (by rw [hsc.out]; exact hA.out)
              have hSn := Lib.hid (hS1.out.below (below_alloc (Below.refl _ _) (Obj.cells #[.int .i64 0, .int .i64 0, .bool false] 80)))
              clear hW hSA hW1 hS1 hb1 HA s0 s1 s2 e0 e1 e2 hA
              go_wp2
              go_roundw
              case rel => exact ⟨j + 1, f, by omega, by go_num, hWn, hAn, hSn⟩
              case measure => first | (simp [RowKit.intOf]; done) | (simp [RowKit.intOf]; omega) | omega
            | some z =>
              have hKz := hadin z hadv
              obtain ⟨zp, zt, zm⟩ := z
              rw [hadv] at HA hsc
              simp only [stV] at HA hsc
              replace HA := Lib.hid HA
              replace hsc := Lib.hid hsc
              clear hadv hadin
              go_wp2_with fail
              refine (HA.out).mono ?_
              rintro e w1 ⟨rfl, hb1⟩
              have hW1 := Lib.hid (hW.out.below hb1)
              have hS1 := Lib.hid (hSA.out.below hb1)
              clear hW hSA hb1 HA s0 s1 s2 e0 e1 e2
              go_upto_region 12 with fail
              have hbz := below_alloc (Below.refl w1.heap.size w1) (Obj.cells #[.int .i64 zp, .int .i64 (zt : Int), .bool zm] 80)
              have hW2 := Lib.hid (hW1.out.below hbz)
              have hS2 := Lib.hid (hS1.out.below hbz)
              have hZ2 := Lib.hid (sa_new w1 ⟨zp, zt, zm⟩)
              clear hW1 hS1 hbz
              generalize w1.alloc (Obj.cells #[.int .i64 zp, .int .i64 (zt : Int), .bool zm] 80) = X1 at *
              generalize w1.heap.size = zb at *
              obtain ⟨nn, ha⟩ := hW2.out.am
              have d1 := hW2.out.m1
              have z0 := hZ2.out.cell (i := 0) (by omega)
              have z1 := hZ2.out.cell (i := 1) (by omega)
              have z2 := hZ2.out.cell (i := 2) (by omega)
              simp only [if_true, if_false, Nat.succ_ne_self, Nat.reduceEqDiff] at z0 z1 z2
              obtain ⟨q0, q1, q2, q3, hq0⟩ : ∃ q0 q1 q2 q3, (f ⟨zp, zt, zm⟩).getD ar0 = (⟨q0, q1, q2⟩, q3) := ⟨_, _, _, _, rfl⟩
              have hlook := ha.look hKz
              rw [hq0] at hlook
              simp only [arV, stV] at hlook
              by_cases hz : (⟨zp, zt, zm⟩ : Pl.St) ∈ (Pl.inn L (⟨p', t', m'⟩, v') acc j).map Prod.fst
              · rw [hA.out.some hz] at hlook
                have hst := hsc.out
                rw [if_pos hz] at hst
                replace hst := Lib.hid hst
                have hba := below_alloc (Below.refl X1.heap.size X1) (Obj.cells #[.int .i64 q0, .int .i64 (q1 : Int), .bool q2, .int .i64 q3] 113)
                have hWn : Hid (WSt w (X1.alloc (Obj.cells #[.int .i64 q0, .int .i64 (q1 : Int), .bool q2, .int .i64 q3] 113)) s m a q cap ((Pl.inn L (⟨p', t', m'⟩, v') acc (j + 1)).map Prod.fst) f mb wb) := Lib.hid (by rw [hst.out]; exact hW2.out.below hba)
                have hAn : Hid (Pl.AccF (Pl.inn L (⟨p', t', m'⟩, v') acc (j + 1)) f) := Lib.hid (by rw [hst.out]; exact hA.out)
                have hSn := Lib.hid (hS2.out.below hba)
                clear hW2 hS2 hba hA ha hZ2 hsc hz hq0
                go_wp2
                go_roundw
                case rel => exact ⟨j + 1, f, by omega, by go_num, hWn, hAn, hSn⟩
                case measure => first | (simp [RowKit.intOf]; done) | (simp [RowKit.intOf]; omega) | omega
              · have hfn := hA.out.none hz
                have hfs : (f ⟨zp, zt, zm⟩).isSome = false := by rw [hfn]; rfl
                rw [hfs] at hlook
                have hst := hsc.out
                rw [if_neg hz] at hst
                replace hst := Lib.hid hst
                have hba := below_alloc (Below.refl X1.heap.size X1) (Obj.cells #[.int .i64 q0, .int .i64 (q1 : Int), .bool q2, .int .i64 q3] 113)
                have hW3 := Lib.hid (hW2.out.below hba)
                have hS3 := Lib.hid (hS2.out.below hba)
                have hZ3 := Lib.hid (hZ2.out.below hba)
                have ha3 := ha.below hba
                clear hW2 hS2 hZ2 hba ha
                go_upto_region 14 with fail
                clear hlook z0 z1 z2 d1
                generalize X1.alloc (Obj.cells #[.int .i64 q0, .int .i64 (q1 : Int), .bool q2, .int .i64 q3] 113) = X2 at *
                have d1 := hW3.out.m1
                have z0 := hZ3.out.cell (i := 0) (by omega)
                have z1 := hZ3.out.cell (i := 1) (by omega)
                have z2 := hZ3.out.cell (i := 2) (by omega)
                have e0 := hS3.out.r.cell (i := 0) (by omega)
                have e1 := hS3.out.r.cell (i := 1) (by omega)
                have e2 := hS3.out.r.cell (i := 2) (by omega)
                simp only [if_true, if_false, Nat.succ_ne_self, Nat.reduceEqDiff] at z0 z1 z2 e0 e1 e2
                obtain ⟨X3, hr, hA3, hmt⟩ := ha3.put hKz hfn (⟨p', t', m'⟩, (j : Int) - (q : Int))
                simp only [arV, stV] at hr
                have hW4 := Lib.hid (hW3.out.put hmt hA3)
                have hS4 : Hid (AtS X3 ab wb ⟨p', t', m'⟩) := Lib.hid (hS3.out.but (T := fun k => k = mb) ⟨hmt.grown.os, hmt.grown.tape, hmt.grown.output, hmt.grown.size, fun k _ hk => turned_block hmt hk⟩ (fun e => by
                  obtain ⟨es, cl, hh, _⟩ := ha3
                  obtain ⟨cs, hc, _⟩ := hS3.out.r
                  rw [e, hh] at hc
                  cases hc) hW3.out.ne)
                have hZ4 : Hid (SA X3 zb ⟨zp, zt, zm⟩) := Lib.hid (hZ3.out.of_block (turned_block hmt (fun e => by
                  obtain ⟨es, cl, hh, _⟩ := ha3
                  obtain ⟨cs, hc, _⟩ := hZ3.out
                  rw [e, hh] at hc
                  cases hc)))
                have hAf : Hid (Pl.AccF (Pl.inn L (⟨p', t', m'⟩, v') acc (j + 1)) (fun z' => if z' = ⟨zp, zt, zm⟩ then some (⟨p', t', m'⟩, (j : Int) - (q : Int)) else f z')) := Lib.hid (by
                  rw [hst.out]
                  exact hA.out.add hmem.out ((j : Int) - (q : Int)) hz)
                have hmap : (Pl.inn L (⟨p', t', m'⟩, v') acc (j + 1)).map Prod.fst = (Pl.inn L (⟨p', t', m'⟩, v') acc j).map Prod.fst ++ [⟨zp, zt, zm⟩] := by
                  rw [hst.out, List.map_append]
                  rfl
                clear hA3 hmt hW3 hS3 hZ3 ha3
                go_upto_region 15 with fail
                clear hr z0 z1 z2 d1 e0 e1 e2
                have z0 := hZ4.out.cell (i := 0) (by omega)
                have z1 := hZ4.out.cell (i := 1) (by omega)
                have z2 := hZ4.out.cell (i := 2) (by omega)
                simp only [if_true, if_false, Nat.succ_ne_self, Nat.reduceEqDiff] at z0 z1 z2
                obtain ⟨v, d0, o, n1, n2⟩ := hW4.out.o
                have hlen2 : ((Pl.inn L (⟨p', t', m'⟩, v') acc j).map Prod.fst).length ≤ 96 := by rw [List.length_map]; exact Pl.bf_len hm1 hok.out hp hB.out
                have AP := Lib.hid (fun (w4 : World) (v' : Value) (o : Obj) => hW4.out.app (w4 := w4) (v' := v') (o := o) d0 (y := ⟨zp, zt, zm⟩))
                have ASP := Lib.hid (fun (w4 : World) (v' : Value) (o : Obj) => hS4.out.app (w4 := w4) (v' := v') (o := o) hwab d0)
                obtain ⟨nl, hnl⟩ : ∃ nl, ((Pl.inn L (⟨p', t', m'⟩, v') acc j).map Prod.fst).length = nl := ⟨_, rfl⟩
                rw [hnl] at o hlen2 AP
                have hsz3 := hW4.out.hm
                obtain ⟨nm, ham⟩ := hW4.out.am
                have hszm := ham.lt
                clear hW4 ham
                go_wp2_with (first
                  | (at_builtin; refine wpList_append_own_at _ rfl (.tmp 71) (.tmp 73) 85 rfl (w.heap.size + 3) 80 i0 (.agg #[.int .i64 0, .int .i64 0, .bool false]) 3 24 Tryd.underlying85 hi hz0 hz1 hz2 rfl (by decide) _ _ _ rfl (o.alloc _) ⟨X3.heap.size, 0, none⟩ 1 1 [.int .i64 zp, .int .i64 (zt : Int), .bool zm] rfl rfl ?c1 ?c2 ?c3 ?c4 ?c5 ?_)
                  | fail)
                case c2 => first | exact ⟨rfl, rfl, rfl⟩ | (intro u hu; simp at hu; rcases hu with rfl | rfl | rfl <;> rfl)
                case c3 => unfold maxLen; omega
                case c4 => omega
                case c5 => first | omega | (simp; omega)
                intro v'' w4 hown' hgrow hnn hat
                obtain ⟨pp, cpp, rfl⟩ := ownForm hown'
                obtain ⟨q0', g0', hWn⟩ := AP.out _ _ _ hown' hgrow hat
                rw [← hmap] at hWn
                replace hWn := Lib.hid hWn
                have hSn := Lib.hid (ASP.out _ _ _ hgrow hat q0')
                clear ASP hnl
                clear AP hown' hgrow hnn hat hst hmap
                go_wp2
                go_roundw
                case rel => exact ⟨j + 1, _, by omega, by go_num, hWn, hAf, hSn⟩
                case measure => first | (simp [RowKit.intOf]; done) | (simp [RowKit.intOf]; omega) | omega
          · obtain rfl : j = 2 * q := by omega
            have hneg : ¬ (((2 * q : Nat) : Int) - (q : Int)) < (q : Int) := by omega
            have hall := Pl.inn_all L (⟨p', t', m'⟩, v') acc (j := 2 * q) (by omega)
            have hF2 := Lib.hid (hF.out.next hx.out)
            have hR2 := Lib.hid ((Pl.bfs_more (L := L) hx.out (by omega)).symm.trans hR.out)
            rw [hall] at hW hA
            have hlt3 : k + 1 ≤ ((Pl.stps L.length).foldl (Pl.addS (Pl.adv L) (⟨p', t', m'⟩, v')) acc).length := by
              have h1 := (Pl.Bf.fold (Pl.stps L.length) acc (fun _ h => h) hF.out hx.out).2.1
              have := (List.getElem?_eq_some_iff.1 h1).1
              omega
            clear hB hBx hall hSA hF hR s0 s1
            go_wp2
            go_roundw
            case rel => exact ⟨k + 1, _, f, hlt3, by go_num, hW, hA, hF2, hR2⟩
            case measure => first | (simp [RowKit.intOf]; done) | (simp [RowKit.intOf]; omega) | omega
      · obtain rfl : k = acc.length := by omega
        have hi5 : ¬ ((acc.length : Nat) : Int) < ((acc.length : Nat) : Int) := by omega
        rw [Pl.bfs_done (Nat.le_refl _)] at hR
        have m1 := hW.out.m1
        have r0 := hW.out.r.cell (i := 0) (by omega)
        have r1 := hW.out.r.cell (i := 1) (by omega)
        have r2 := hW.out.r.frozen 0
        have r3 := hW.out.r.frozen 1
        simp only [if_true, if_false, Nat.succ_ne_self] at r0 r1
        have hB9 := hW.out.b
        have hbut : But (fun k => k = w.heap.size + 1) wr ((wr.setCell ⟨w.heap.size + 1, 0, none⟩ (.slice a' acc.length cp)).setCell ⟨w.heap.size + 1, 1, none⟩ (.map (some mb))) := ((But.refl (fun k => k = w.heap.size + 1) wr).setCell (p := ⟨w.heap.size + 1, 0, none⟩) (.inr rfl) _).setCell (p := ⟨w.heap.size + 1, 1, none⟩) (.inr rfl) _
        have hSf : Hid (StsAt ((wr.setCell ⟨w.heap.size + 1, 0, none⟩ (.slice a' acc.length cp)).setCell ⟨w.heap.size + 1, 1, none⟩ (.map (some mb))) a' (acc.map Prod.fst)) := Lib.hid (by
          obtain ⟨v9, d9, o9, _⟩ := hW.out.o
          rw [d0] at d9
          obtain rfl := Option.some.inj d9
          have h := ownBut o9 hbut (fun g hg e => by have := (o9.lt g hg).1; omega)
          obtain ⟨a9, c9, e9, h9⟩ := sts_of_owns rfl h
          simp only [Value.slice.injEq] at e9
          obtain ⟨rfl, _, _⟩ := e9
          exact h9)
        have hmf : Hid (∃ k, AM ((wr.setCell ⟨w.heap.size + 1, 0, none⟩ (.slice a' acc.length cp)).setCell ⟨w.heap.size + 1, 1, none⟩ (.map (some mb))) mb k f) := Lib.hid (by
          obtain ⟨k9, h9⟩ := hW.out.am
          have := hW.out.hm
          exact ⟨k9, (h9.set ⟨w.heap.size + 1, 0, none⟩ (by simp only; omega) _).set ⟨w.heap.size + 1, 1, none⟩ (by simp only; omega) _⟩)
        have hbf := hB9.trans (hbut.below hB9.size (fun k hk e => by omega))
        have c9 : ((wr.setCell ⟨w.heap.size + 1, 0, none⟩ (.slice a' acc.length cp)).setCell ⟨w.heap.size + 1, 1, none⟩ (.map (some mb))).cell? ⟨w.heap.size + 1, 0, none⟩ = some (.slice a' acc.length cp) := by simp [go_sem, r0]
        have c8 : ((wr.setCell ⟨w.heap.size + 1, 0, none⟩ (.slice a' acc.length cp)).setCell ⟨w.heap.size + 1, 1, none⟩ (.map (some mb))).cell? ⟨w.heap.size + 1, 1, none⟩ = some (.map (some mb)) := by simp [go_sem, r1]
        clear hW hS hB9 hbut
        go_wp2
        generalize (wr.setCell ⟨w.heap.size + 1, 0, none⟩ (.slice a' acc.length cp)).setCell ⟨w.heap.size + 1, 1, none⟩ (.map (some mb)) = V at *
        refine bodyPost_ret (v := .agg #[.slice a' acc.length cp, .map (some mb)]) (by simp [results, Tryd.results49, go_sem, c9, c8]) rfl ?_
        have e1 := hR.out
        subst e1
        exact ⟨a', _, cp, mb, f, rfl, rfl, hSf, hmf, hA, hbf⟩
end Go.Proofs.YtmkjmpkicmadcaaDoor
