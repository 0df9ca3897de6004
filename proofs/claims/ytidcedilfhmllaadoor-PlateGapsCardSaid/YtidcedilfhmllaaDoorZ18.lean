/- What the claims of layer 3 share, part 18: several texts one behind the other. -/
import Derived.Test.YtidcedilfhmllaaDoorZ17
import Derived.Test.YtidcedilfhmllaaDoorZ07
import Derived.Test.YtidcedilfhmllaaDoorZ14
import Derived.Test.YtidcedilfhmllaaDoorZ13
import Derived.Test.YtidcedilfhmllaaDoorZ16
import Derived.Maps.OwnIn
import Derived.Sort.LoopGhostIn
import Derived.Sort.QuietIn
import Derived.Sort.CutIn
import Derived.Test.YtidcedilfhmllaaDoorZ06
set_option linter.unusedSimpArgs false
set_option linter.unusedVariables false
/- Contracts of package plate: classes. -/
namespace Go.Proofs.YtidcedilfhmllaaDoor
open Go.RowKit
attribute [local go_sem] Oper.semAt_some

/-- two rows of one's own that grow side by side, each behind a box -/
structure PR (w W : World) (p q : Nat) (xs ys : List Value) : Prop where
  e : ∃ v3 v4, W.cell? ⟨p, 0, none⟩ = some v3 ∧ W.cell? ⟨q, 0, none⟩ = some v4 ∧ W.ownsRow (w.heap.size + 2) 3 1 v3 xs.length xs ∧ W.ownsRow (w.heap.size + 2) 3 1 v4 ys.length ys ∧ (∀ g, v3.ownBlock = some g → v4.ownBlock ≠ some g)
  f3 : W.frozen? ⟨p, 0, none⟩ = false
  f4 : W.frozen? ⟨q, 0, none⟩ = false
  b : Below w.heap.size w W
  z : w.heap.size + 2 ≤ W.heap.size
theorem PR.swap {w W : World} {p q : Nat} {xs ys : List Value} (h : PR w W p q xs ys) : PR w W q p ys xs := by
  obtain ⟨v3, v4, d3, d4, o3, o4, hne⟩ := h.e
  exact ⟨⟨v4, v3, d4, d3, o4, o3, fun g hg e => hne g e hg⟩, h.f4, h.f3, h.b, h.z⟩
theorem PR.app {w W w4 : World} {p q : Nat} {xs ys : List Value} {v3 v4 v' u : Value} {o : Obj} (hpq : p ≠ q) (hp : w.heap.size ≤ p ∧ p < w.heap.size + 2) (hq : w.heap.size ≤ q ∧ q < w.heap.size + 2)
    (d3 : W.cell? ⟨p, 0, none⟩ = some v3) (d4 : W.cell? ⟨q, 0, none⟩ = some v4) (o3 : W.ownsRow (w.heap.size + 2) 3 1 v3 xs.length xs) (o4 : W.ownsRow (w.heap.size + 2) 3 1 v4 ys.length ys) (hne : ∀ g, v3.ownBlock = some g → v4.ownBlock ≠ some g) (f3 : W.frozen? ⟨p, 0, none⟩ = false) (f4 : W.frozen? ⟨q, 0, none⟩ = false) (hb : Below w.heap.size w W) (hz : w.heap.size + 2 ≤ W.heap.size)
    (hown : w4.ownsRow (w.heap.size + 2) 3 1 v' (xs.length + 1) (xs ++ [u])) (hgrow : (W.alloc o).grownBy w4 v3.ownBlock) (hat : v'.ownBlock = v3.ownBlock ∨ v'.ownBlock = some (W.heap.size + 1)) :
    w4.cell? ⟨p, 0, none⟩ = some v3 ∧ w4.frozen? ⟨p, 0, none⟩ = false ∧ PR w (w4.setCell ⟨p, 0, none⟩ v') p q (xs ++ [u]) ys := by
  have hbt := butGrown hgrow
  have hfar : ∀ k, k < w.heap.size + 2 → ¬ v3.ownBlock = some k := fun k hk e => by have := ownFar o3 e; omega
  have q3 := hbt.kept (cell_alloc d3 o) (hfar p hp.2)
  have q4 := hbt.kept (cell_alloc d4 o) (hfar q hq.2)
  have g3 : w4.frozen? ⟨p, 0, none⟩ = false := (hbt.frozen (p := ⟨p, 0, none⟩) (by simp; omega) (hfar p hp.2)).trans (((below_alloc (Below.refl W.heap.size W) o).frozen (p := ⟨p, 0, none⟩) (by simp; omega)).trans f3)
  have g4 : w4.frozen? ⟨q, 0, none⟩ = false := (hbt.frozen (p := ⟨q, 0, none⟩) (by simp; omega) (hfar q hq.2)).trans (((below_alloc (Below.refl W.heap.size W) o).frozen (p := ⟨q, 0, none⟩) (by simp; omega)).trans f4)
  have k4 := (o4.alloc o).kept hgrow (by
    cases hv : v4.ownBlock with
    | none => exact .inl rfl
    | some g => exact .inr (fun e => hne g e.symm hv))
  have hz4 : w.heap.size + 2 ≤ w4.heap.size := by have := hbt.size; simp at this; omega
  have hne2 : ∀ g, v'.ownBlock = some g → v4.ownBlock ≠ some g := fun g hg e => by
    rcases hat with h | h
    · exact hne g (h.symm.trans hg) e
    · rw [h] at hg
      cases hg
      have := (o4.lt _ e).2
      omega
  refine ⟨q3, g3, ⟨⟨v', v4, ?_, ?_, ?_, ?_, hne2⟩, ?_, ?_, ?_, ?_⟩⟩
  · simp [go_sem, q3]
  · exact (World.cell?_setCell_other _ _ _ _ (by simp)).trans q4
  · have h := ownsRow_setCell_below hown (a := ⟨p, 0, none⟩) hp.2 v'
    rw [List.length_append]
    exact h
  · exact ownsRow_setCell_below k4 (a := ⟨p, 0, none⟩) hp.2 v'
  · simp [go_sem, g3]
  · simp [go_sem, g4]
  · exact (hb.trans ((((below_alloc (Below.refl W.heap.size W) o)).mono hb.size).trans (hbt.below (by have := hb.size; simp; omega) (fun k hk => hfar k (by omega))))).setCell hp.1 v'
  · simpa using hz4
/-- the two lists, while they are begun -/
def C1 (w W : World) (j k : Nat) : Prop := PR w W w.heap.size (w.heap.size + 1) ((List.range j).map nV) (List.replicate k (.int .i64 1))

/-- the lists as they are begun with -/
theorem C1.un {w W : World} {N : Nat} (h : C1 w W N N) (hN : 0 < N) : ∃ lb wb cl cw, UN W w.heap.size (w.heap.size + 1) lb wb N cl cw (Pl.lsF (List.range N)) (Pl.wsF (List.replicate N 1)) ∧ lb ≠ wb ∧ w.heap.size + 2 ≤ lb ∧ w.heap.size + 2 ≤ wb ∧ W.frozen? ⟨w.heap.size, 0, none⟩ = false ∧ W.frozen? ⟨w.heap.size + 1, 0, none⟩ = false ∧ Below w.heap.size w W := by
  obtain ⟨v3, v4, d3, d4, o3, o4, hne⟩ := h.e
  have l3 : ((List.range N).map nV).length = N := by simp
  rw [l3] at o3
  rw [List.length_replicate] at o4
  obtain ⟨lb, cl, f, rfl, hl, hc, _, r3, e3⟩ := owns_row o3 hN
  obtain ⟨wb, cw, g, rfl, hw, hc', _, r4, e4⟩ := owns_row o4 hN
  refine ⟨lb, wb, cl, cw, ⟨d3, d4, fun k hk => ⟨?_, r3.frozen k⟩, fun k hk => ⟨?_, r4.frozen k⟩⟩, fun e => hne lb rfl (by rw [e]; rfl), hl, hw, h.f3, h.f4, h.b⟩
  · rw [r3.cell (i := k) (by omega)]
    have := e3 k hk
    rw [List.getElem?_map, List.getElem?_range hk] at this
    rw [← this]
    show some (nV k) = some (.int .i64 ((Pl.lsF (List.range N) k : Nat) : Int))
    rw [Pl.lsF_at (l := List.range N) (c := k) (by simpa using hk), List.getElem_range]
    rfl
  · rw [r4.cell (i := k) (by omega)]
    have := e4 k hk
    rw [List.getElem?_replicate, if_pos hk] at this
    rw [← this]
    show _ = some (Value.int .i64 (Pl.wsF (List.replicate N 1) k))
    rw [Pl.wsF_at (l := List.replicate N 1) (c := k) (by simpa using hk), List.getElem_replicate]

/-- what classes leaves -/
def ClPost (w : World) (N : Nat) (q : List Nat × List Int) (e : Ending) (w' : World) : Prop :=
  ∃ lb wb cl cw, e = .returned (.tuple #[.slice (some ⟨lb, 0, none⟩) N cl, .slice (some ⟨wb, 0, none⟩) N cw]) ∧ Hid (RowF w' lb N fun k => (Pl.lsF q.1 k : Int)) ∧ Hid (RowF w' wb N (Pl.wsF q.2)) ∧ lb ≠ wb ∧ w.heap.size ≤ lb ∧ w.heap.size ≤ wb ∧ Below w.heap.size w w'
theorem classes_end {w W : World} {lb wb N cl cw fb b3 b4 : Nat} {q : List Nat × List Int} {rs : List Nat} {tmps : Array Value} (h : KC w W b3 b4 lb wb N cl cw fb q rs) (kn : KN w b3 b4 lb wb fb) (hN : 0 < N) (hn : rs.Nodup) (h4 : tmps.getD 4 undef = .pointer (some ⟨b3, 0, none⟩)) (h5 : tmps.getD 5 undef = .pointer (some ⟨b4, 0, none⟩)) :
    LeavesInM Fence.wide 7 Tryd.prog Tryd.f49 tmps (ClPost w N q) (marks rs) .returning ((W.setCell ⟨b3, 0, none⟩ (.slice (some ⟨lb, 0, none⟩) N cl)).setCell ⟨b4, 0, none⟩ (.slice (some ⟨wb, 0, none⟩) N cw)).drew := by
  have hB : But (fun g => g = b3 ∨ g = b4) W ((W.setCell ⟨b3, 0, none⟩ (.slice (some ⟨lb, 0, none⟩) N cl)).setCell ⟨b4, 0, none⟩ (.slice (some ⟨wb, 0, none⟩) N cw)).drew := (((But.refl _ W).setCell (p := ⟨b3, 0, none⟩) (.inr (.inl rfl)) _).setCell (p := ⟨b4, 0, none⟩) (.inr (.inr rfl)) _).drew
  have ne := kn.ne
  have hb34 := kn.b34
  have nr : ∀ {W : World} {p : Addr} {x : Value}, W.cell? p = some x → ∀ r, W.heap[r]? = some (.deferred (some [])) → r ≠ p.block := fun hc r hr e => by
    have := cells_of_cell hc (o := _) (by rw [← e]; exact hr)
    cases this
  have c3 : ((W.setCell ⟨b3, 0, none⟩ (.slice (some ⟨lb, 0, none⟩) N cl)).setCell ⟨b4, 0, none⟩ (.slice (some ⟨wb, 0, none⟩) N cw)).drew.cell? ⟨b3, 0, none⟩ = some (.slice (some ⟨lb, 0, none⟩) N cl) := by simp [go_sem, h.u.c3, hb34, Ne.symm hb34]
  have c4 : ((W.setCell ⟨b3, 0, none⟩ (.slice (some ⟨lb, 0, none⟩) N cl)).setCell ⟨b4, 0, none⟩ (.slice (some ⟨wb, 0, none⟩) N cw)).drew.cell? ⟨b4, 0, none⟩ = some (.slice (some ⟨wb, 0, none⟩) N cw) := by simp [go_sem, h.u.c4, hb34, Ne.symm hb34]
  have hl := h.u.l.but hB (fun e => e.elim (Ne.symm ne.n2) (Ne.symm ne.n4))
  have hw := h.u.w.but hB (fun e => e.elim (Ne.symm ne.n3) (Ne.symm ne.n5))
  have hb := h.b.trans (hB.below h.b.size (fun k hk e => by have := kn.h3; have := kn.h4; omega))
  have mk : ∀ r ∈ rs, ((W.setCell ⟨b3, 0, none⟩ (.slice (some ⟨lb, 0, none⟩) N cl)).setCell ⟨b4, 0, none⟩ (.slice (some ⟨wb, 0, none⟩) N cw)).drew.heap[r]? = some (.deferred (some [])) := fun r hr =>
    (hB.block r (Array.getElem?_eq_some_iff.1 (h.mks r hr).2).1 (fun e => e.elim (nr h.u.c3 r (h.mks r hr).2) (nr h.u.c4 r (h.mks r hr).2))).trans (h.mks r hr).2
  generalize ((W.setCell ⟨b3, 0, none⟩ (.slice (some ⟨lb, 0, none⟩) N cl)).setCell ⟨b4, 0, none⟩ (.slice (some ⟨wb, 0, none⟩) N cw)).drew = X at *
  refine leaves_marks rs X hn mk ?_
  have fb := freed_but rs X
  have no : ∀ {p : Addr} {x : Value}, X.cell? p = some x → ¬ p.block ∈ rs := fun hc hm => nr hc _ (mk _ hm) rfl
  have k3 := fb.kept c3 (no c3)
  have k4 := fb.kept c4 (no c4)
  have t4 : tmps[4]?.getD undef = .pointer (some ⟨b3, 0, none⟩) := by rw [← h4]; simp
  have t5 : tmps[5]?.getD undef = .pointer (some ⟨b4, 0, none⟩) := by rw [← h5]; simp
  refine ⟨.tuple #[.slice (some ⟨lb, 0, none⟩) N cl, .slice (some ⟨wb, 0, none⟩) N cw], by simp [results, Tryd.results49, go_sem, t4, t5, k3, k4], lb, wb, cl, cw, rfl, Lib.hid (hl.but fb (no (hl 0 hN).1)), Lib.hid (hw.but fb (no (hw 0 hN).1)), ne.n1, kn.hl, kn.hw, ?_⟩
  exact hb.trans (fb.below hb.size (fun k hk hm => by have := (h.mks k hm).1; omega))

set_option maxRecDepth 100000 in
set_option maxHeartbeats 8000000 in
theorem classes_any (s : Nat) (h1 : 1 ≤ s) (h6 : s ≤ 6) (a : Option Addr) (n cap : Nat) (G : List (Nat × Bool)) (hn : Hid (G.length = n)) (hn2 : n ≤ 1000) (hG : Hid (∀ g ∈ G, g.1 < 8)) (w : World) (hg : Hid (SgsAt w a G)) :
    Calls Tryd.prog 49 #[.int .i64 (s : Int), .slice a n cap] w (ClPost w (s * s) (Pl.clsL s G)) := by
  obtain ⟨i0, hi, hz0, hz1, hz2⟩ := info_parts infoI64
  have hs2 : ((s * s : Nat) : Int) = (s : Int) * (s : Int) := Int.natCast_mul _ _
  have hs3 : s * s ≤ 36 := Nat.mul_le_mul h6 h6
  have hs1 : 1 ≤ s * s := Nat.mul_le_mul h1 h1
  have hs4 : (s : Int) * (s : Int) ≤ 36 := by omega
  have hs5 : (0 : Int) ≤ (s : Int) * (s : Int) := by omega
  obtain ⟨N, hN⟩ : ∃ N, s * s = N := ⟨_, rfl⟩
  rw [hN] at hs1 hs2 hs3
  rw [hN]
  replace hs2 := Lib.hid hs2
  have c1 : Hid (C1 w ((w.alloc (Obj.cells #[.slice none 0 0] 22)).alloc (Obj.cells #[.slice none 0 0] 22)) 0 0) := Lib.hid ⟨⟨_, _, by simp [go_sem], by simp [go_sem], World.ownsRow_nil _ _ _ _, World.ownsRow_nil _ _ _ _, fun g hg => by cases hg⟩, by simp [go_sem], by simp [go_sem], below_alloc (below_alloc (Below.refl _ _) _) _, by simp⟩
  refine (callsIn_wide (n := 7)).1 ?_
  refine callsIn_of_wp_marks Tryd.func49 rfl trivial ?_ rfl
  simp only [Tryd.ntmps49, List.size_toArray, List.length_cons, List.length_nil, Nat.reduceAdd, Nat.reduceSub, Array.replicate_succ, Array.replicate_zero, List.push_toArray, List.append_toArray, List.nil_append, List.cons_append]
  gi_wp2_with fail
  gi_loopw [16] (fun iv wr => ∃ k : Nat, k ≤ N ∧ iv = .int .i64 (k : Int) ∧ Hid (C1 w wr k k)) (fun iv _ => N - (RowKit.intOf iv).toNat)
  case atStart => exact ⟨0, Nat.zero_le _, rfl, c1⟩
  case round =>
    clear c1
    obtain ⟨k, hk, rfl, hC⟩ := hrel
    by_cases hlt : k < N
    · have hi5 : (k : Int) < (s : Int) * (s : Int) := by rw [← hs2.out]; omega
      obtain ⟨v3, v4, d3, d4, o3, o4, hne⟩ := hC.out.e
      have f3 := hC.out.f3
      have f4 := hC.out.f4
      have hb := hC.out.b
      have hz := hC.out.z
      have l3 : ((List.range k).map nV).length = k := by simp
      have AP := Lib.hid (fun (o : Obj) (w4 : World) (v' : Value) => PR.app (o := o) (w4 := w4) (v' := v') (u := .int .i64 (k : Int)) (by omega) ⟨Nat.le_refl _, by omega⟩ ⟨by omega, by omega⟩ d3 d4 o3 o4 hne f3 f4 hb hz)
      rw [l3] at o3 AP
      clear hC l3
      gi_wp2_with (first
        | (gi_at_builtin; refine wpListIn_append_own_at _ rfl (.tmp 19) (.tmp 21) 22 rfl (w.heap.size + 2) 3 i0 (.int .i64 0) 1 8 Tryd.underlying22 hi hz0 hz1 hz2 rfl (by decide) _ _ _ rfl (o3.alloc _) ⟨wr.heap.size, 0, none⟩ 1 1 [.int .i64 (k : Int)] rfl rfl ?c1 ?c2 ?c3 ?c4 ?c5 ?_)
        | fail)
      case c1 =>
        intro j u hj
        match j, hj with
        | 0, hj => simp at hj; subst hj; simp [Addr.add]
      case c2 => intro u hu; simp at hu; subst hu; rfl
      case c3 => unfold maxLen; omega
      case c4 => omega
      case c5 => simp; omega
      intro v' w4 hown' hgrow hnn hat
      obtain ⟨p3, cp3, rfl⟩ := ownForm hown'
      obtain ⟨q3, g3, hPR⟩ := AP.out _ _ _ hown' hgrow hat
      have hC2 : Hid (C1 w (w4.setCell ⟨w.heap.size, 0, none⟩ (.slice p3 (k + 1) cp3)) (k + 1) k) := Lib.hid (by unfold C1; rw [List.range_succ, List.map_append]; exact hPR)
      clear AP hown' hgrow hnn hat hPR d3 d4 o3 o4 hne f3 f4 hb hz v4
      gi_upto_region 5 with fail
      clear q3 g3
      generalize w4.setCell ⟨w.heap.size, 0, none⟩ (.slice p3 (k + 1) cp3) = wq at *
      obtain ⟨v4, v3, d4, d3, o4, o3, hne⟩ := hC2.out.swap.e
      have f3 := hC2.out.f3
      have f4 := hC2.out.f4
      have hb := hC2.out.b
      have hz := hC2.out.z
      have AP := Lib.hid (fun (o : Obj) (w4 : World) (v' : Value) => PR.app (o := o) (w4 := w4) (v' := v') (u := .int .i64 1) (by omega) ⟨by omega, by omega⟩ ⟨Nat.le_refl _, by omega⟩ d4 d3 o4 o3 hne f4 f3 hb hz)
      rw [List.length_replicate] at o4 AP
      clear hC2
      gi_wp2_with (first
        | (gi_at_builtin; refine wpListIn_append_own_at _ rfl (.tmp 23) (.tmp 24) 22 rfl (w.heap.size + 2) 3 i0 (.int .i64 0) 1 8 Tryd.underlying22 hi hz0 hz1 hz2 rfl (by decide) _ _ _ rfl (o4.alloc _) ⟨wq.heap.size, 0, none⟩ 1 1 [.int .i64 1] rfl rfl ?c1 ?c2 ?c3 ?c4 ?c5 ?_)
        | fail)
      case c1 =>
        intro j u hj
        match j, hj with
        | 0, hj => simp at hj; subst hj; simp [Addr.add]
      case c2 => intro u hu; simp at hu; subst hu; rfl
      case c3 => unfold maxLen; omega
      case c4 => omega
      case c5 => simp; omega
      intro v' w4 hown' hgrow hnn hat
      obtain ⟨p4, cp4, rfl⟩ := ownForm hown'
      obtain ⟨q4, g4, hPR⟩ := AP.out _ _ _ hown' hgrow hat
      have hC3 : Hid (C1 w (w4.setCell ⟨w.heap.size + 1, 0, none⟩ (.slice p4 (k + 1) cp4)) (k + 1) (k + 1)) := Lib.hid (by unfold C1; rw [List.replicate_succ']; exact hPR.swap)
      clear AP hown' hgrow hnn hat hPR d3 d4 o3 o4 hne f3 f4 hb hz
      gi_wp2
      go_roundw
      case rel => exact ⟨k + 1, by omega, by go_num, hC3⟩
      case measure => first | (simp [RowKit.intOf]; done) | (simp [RowKit.intOf]; omega) | omega
    · obtain rfl : k = N := by omega
      have hneg : ¬ (k : Int) < (s : Int) * (s : Int) := by rw [← hs2.out]; omega
      have hneg2 : ¬ (s : Int) * (s : Int) < (s : Int) * (s : Int) := by omega
      gi_upto_region 7 with fail
      obtain ⟨lb, wb, cl, cw, hU, hlw, hl, hw, f3, f4, hb⟩ := hC.out.un hs1
      have hmf : ∀ (fn : Fn) (first cap : Array Value) (w : World), (Instr.makeFunc fn first cap).run Tryd.prog w = .ok (.func fn first cap) w := fun _ _ _ _ => rfl
      have kw := (block_lt_of_cell (hU.l 0 hs1).1)
      have kw2 := (block_lt_of_cell (hU.w 0 hs1).1)
      simp only at kw kw2
      have hKN : Hid (KN w w.heap.size (w.heap.size + 1) lb wb wr.heap.size) := Lib.hid ⟨⟨hlw, by omega, by omega, by omega, by omega⟩, Nat.le_refl _, by omega, by omega, by omega, by omega, by omega, by omega⟩
      have hbA := below_alloc (Below.refl wr.heap.size wr) (Obj.cells #[.func (.func 78) #[] #[.pointer (some ⟨w.heap.size, 0, none⟩), .pointer (some ⟨w.heap.size + 1, 0, none⟩)]] 136)
      have hKC : Hid (KC w (wr.alloc (Obj.cells #[.func (.func 78) #[] #[.pointer (some ⟨w.heap.size, 0, none⟩), .pointer (some ⟨w.heap.size + 1, 0, none⟩)]] 136)) w.heap.size (w.heap.size + 1) lb wb k cl cw wr.heap.size (Pl.clsL s (G.take 0)) []) := Lib.hid ⟨by
        have e : Pl.clsL s (G.take 0) = (List.range k, List.replicate k 1) := by rw [List.take_zero]; unfold Pl.clsL Pl.edges; rw [hN]; rfl
        rw [e]
        exact hU.but (T := fun _ => False) (.of_below hbA) id id id id, (hbA.frozen (p := ⟨w.heap.size, 0, none⟩) (by simp; omega)).trans f3, (hbA.frozen (p := ⟨w.heap.size + 1, 0, none⟩) (by simp; omega)).trans f4, by simp [go_sem], below_alloc hb _, fun r hr => by cases hr⟩
      clear hU f3 f4 hb hbA hl hw hlw kw kw2 hC
      gi_wp2
      -- the loop over the signs
      rename_i K0 hK0
      generalize hQ0 : Exit.inBlock 2 _ = Q0
      replace hQ0 := Lib.hid hQ0
      replace hK0 := Lib.hid hK0
      have hfb := block_lt_of_cell hKC.out.f
      simp only at hfb
      generalize wr.alloc (Obj.cells #[.func (.func 78) #[] #[.pointer (some ⟨w.heap.size, 0, none⟩), .pointer (some ⟨w.heap.size + 1, 0, none⟩)]] 136) = Y at *
      generalize wr.heap.size = fb at *
      refine wpIn_loop_ghost_k (fun gk a' W => ∃ (v8 v9 v10 v11 v12 v31 v32 v33 v34 v35 v36 v37 v38 v39 v40 v41 v42 v43 v44 v45 v46 v47 v48 v49 : Value) (j : Nat) (rs : List Nat), (j ≤ n ∧ gk = n - j ∧ Hid rs.Nodup ∧ Hid (KC w W w.heap.size (w.heap.size + 1) lb wb k cl cw fb (Pl.clsL s (G.take j)) rs)) ∧ a' = { tmps := #[.int .i64 (s : Int), .slice a n cap, undef, undef, .pointer (some ⟨w.heap.size, 0, none⟩), .pointer (some ⟨w.heap.size + 1, 0, none⟩), u6, .pointer (some ⟨fb, 0, none⟩), v8, v9, v10, v11, v12, .int .i64 (s : Int), .int .i64 (s : Int), .int .i64 ((s : Int) * (s : Int)), .int .i64 (k : Int), .bool false, u18, u19, u20, u21, u22, u23, u24, u25, u26, .func (.func 78) #[] #[.pointer (some ⟨w.heap.size, 0, none⟩), .pointer (some ⟨w.heap.size + 1, 0, none⟩)], .slice a n cap, .int .i64 (n : Int), .int .i64 (j : Int), v31, v32, v33, v34, v35, v36, v37, v38, v39, v40, v41, v42, v43, v44, v45, v46, v47, v48, v49], defers := marks rs }) n ?_ ?_
      · exact ⟨_, _, _, _, _, _, _, _, _, _, _, _, _, _, _, _, _, _, _, _, _, _, _, _, 0, [], ⟨Nat.zero_le _, by omega, Lib.hid List.nodup_nil, hKC⟩, rfl⟩
      · clear hKC hfb
        clear Y
        rintro gk _ wq ⟨v8, v9, v10, v11, v12, v31, v32, v33, v34, v35, v36, v37, v38, v39, v40, v41, v42, v43, v44, v45, v46, v47, v48, v49, j, rs, ⟨hj, rfl, HN, HS⟩, rfl⟩ J K hJ hK
        replace hJ := Lib.hid hJ
        replace hK := Lib.hid hK
        by_cases hlt : j < n
        · have hjl : j < G.length := by have := hn.out; omega
          obtain ⟨x, rfl, hc0, hc1⟩ := hg.out j hjl
          obtain ⟨t, m, hz⟩ : ∃ t m, G.getD j (0, false) = (t, m) := ⟨_, _, rfl⟩
          have hmem : (t, m) ∈ G := by rw [← hz, List.getD, List.getElem?_eq_getElem hjl]; exact List.getElem_mem hjl
          have htk : Hid (G.take (j + 1) = G.take j ++ [(t, m)]) := Lib.hid (by rw [List.take_succ_eq_append_getElem hjl, ← hz, List.getD, List.getElem?_eq_getElem hjl]; rfl)
          rw [hz] at hc0 hc1
          simp only at hc0 hc1
          have ht : t < 8 := hG.out _ hmem
          have hGt : Hid (∀ g ∈ G.take j, g.1 < 8) := Lib.hid (fun g hg => hG.out g (List.mem_of_mem_take hg))
          clear hz hmem
          replace hc0 := kept1 hc0 HS.out.b
          replace hc1 := kept1 hc1 HS.out.b
          have hi5 : (j : Int) < (n : Int) := by omega
          have hi6 : (0 : Int) ≤ (j : Int) := by omega
          have HM := Lib.hid (fun W => moves_any s t ht W)
          have hlw := block_lt_of_cell (HS.out.u.l 0 hs1).1
          have hww := block_lt_of_cell (HS.out.u.w 0 hs1).1
          have h3w := block_lt_of_cell HS.out.u.c3
          have h4w := block_lt_of_cell HS.out.u.c4
          have hfw := block_lt_of_cell HS.out.f
          simp only at hlw hww h3w h4w hfw
          have hwb := HS.out.b.size
          cases m
          · have hX : Hid (Below wq.heap.size wq ((wq.alloc (Obj.cells #[.int .i64 (t : Int), .bool false] 70)).alloc (Obj.cells #[.int .i64 1] 3))) := Lib.hid (below_alloc (below_alloc (Below.refl _ _) _) _)
            have hXw : ((wq.alloc (Obj.cells #[.int .i64 (t : Int), .bool false] 70)).alloc (Obj.cells #[.int .i64 1] 3)).cell? ⟨wq.heap.size + 1, 0, none⟩ = some (.int .i64 (Pl.sg false)) := by simp [go_sem, Pl.sg]
            have hX0 : ((wq.alloc (Obj.cells #[.int .i64 (t : Int), .bool false] 70)).alloc (Obj.cells #[.int .i64 1] 3)).cell? ⟨wq.heap.size, 0, none⟩ = some (.int .i64 (t : Int)) := by simp [go_sem]
            gi_wp2_with fail
            refine ⟨trivial, ?_⟩
            refine (callsIn_wide.2 (HM.out _)).mono ?_
            rintro e w2 ⟨b2, b5, rfl, hMK, hb2, hs2', hs5'⟩
            have HS2 := Lib.hid ((HS.out.below hX.out).below hb2)
            replace hXw := kept1 hXw hb2
            have hsz2 : wq.heap.size + 1 + 1 ≤ w2.heap.size := by have := hb2.size; simp at this; omega
            have hb25 : wq.heap.size + 1 + 1 ≤ b2 ∧ wq.heap.size + 1 + 1 ≤ b5 := by simp at hs2' hs5'; omega
            have hmk := HS.out.mks
            have hrs : ∀ r ∈ rs, r < w2.heap.size := fun r hr => by have := (Array.getElem?_eq_some_iff.1 (hmk r hr).2).1; omega
            replace hrs := Lib.hid hrs
            clear HM hX hX0 hb2 hs2' hs5' hmk hc0 hc1 HS
            gi_wp2_with fail
            refine range_nextV (enc := mvV) (n := 7) (hps := fun _ => rfl) (by omega) (gf := 98) (lb := #[.pointer (some ⟨b2, 0, none⟩), .pointer (some ⟨b5, 0, none⟩)]) rfl (enters_of Tryd.func98 (by kernel_rfl) rfl)
              (moves_hands 6 (by omega) b2 b5 s t ht h1 h6 w2) (Below.refl _ _)
              (KI w w2.heap.size w.heap.size (w.heap.size + 1) lb wb k cl cw fb (wq.heap.size + 1) b2 b5 s t (G.take j) false rs) (fun _ _ => False) (ki_own _ _ _ _ _ _ _ _ _ _ _ _ _ _ _ _ _ _) (fun _ _ _ _ h _ _ => h) ?keep ?init ?a1false ?assign ?body ?done ?stop
            case keep => exact fun pre W h => h.2.2.1
            case init => exact ⟨by rw [Pl.clsTo_nil]; exact HS2.out, hXw, hMK.out, hrs.out, by omega⟩
            case assign =>
              intro l x W K' hK'
              simp only [mvV] at hK' ⊢
              gi_wp2
              exact hK'
            case stop => exact fun _ _ _ _ _ h _ => h.elim
            case body =>
              rintro l pre ⟨c, d⟩ W ⟨g1, g2, g3, g4, g5⟩ hpre
              have hmem : (c, d) ∈ Pl.mvs s t (s * s) := hpre.subset (by simp)
              obtain ⟨hc, hd⟩ := Pl.mvs_mem hmem
              simp only at hc hd
              have hd2 : d < s * s := by rw [hd]; exact Pl.tk_lt h6 hc ht
              rw [hN] at hc hd2
              have hCL := Pl.clsTo_CL h6 hGt.out false ht (pre := pre) (fun e he => hpre.subset (by simp [he]))
              rw [hN] at hCL
              have HU := Lib.hid (unite_any w.heap.size (w.heap.size + 1) lb wb k cl cw c d false _ _ hc hd2 hs3 (Lib.hid hCL.lt) (Lib.hid hCL.tri) hKN.out.ne W (Lib.hid g1.u))
              have hfn := g1.f
              have hsn := Lib.hid (Pl.clsTo_snoc s (G.take j) false pre (c, d))
              have HI : Hid (KC w W w.heap.size (w.heap.size + 1) lb wb k cl cw fb (Pl.clsTo s (G.take j) false pre) rs ∧ MK b2 b5 s t W) := Lib.hid ⟨g1, g3⟩
              have entc := Lib.hid entC
              have ent : ∀ args W, (callFunc 78 args).run Tryd.prog W = .ok (.enter 78 args) W := entc.out
              replace hCL := Lib.hid hCL
              simp only [Pl.sg, if_false, Bool.false_eq_true] at g2 HU
              clear g1 g3 hmem hpre HS2 hMK hd
              gi_wp2_with fail
              refine ⟨trivial, ?_⟩
              refine (CallsIn.inRound _ (callsIn_wide.2 HU.out)).mono ?_
              rintro e w3 ⟨rfl, hU3, hB3⟩
              have hk3 := keepsU hB3.out HI.out.1.u.l HI.out.1.u.w hs1
              have hl1 := hCL.out.l
              have hl2 := hCL.out.w
              have hK3 : KC w w3 w.heap.size (w.heap.size + 1) lb wb k cl cw fb (Pl.clsTo s (G.take j) false (pre ++ [(c, d)])) rs := HI.out.1.next hKN.out hs1 hB3.out hU3.out (fun q hq => by rw [hsn.out]; exact (Pl.lsF_unl (by omega) _ _).symm) (fun q hq => by rw [hsn.out]; exact (Pl.wsF_unl (by omega) (by omega) _ _ _).symm)
              have hw3 := hB3.out.kept g2 (fun e => by simp only at e; omega)
              have hM3 : MK b2 b5 s t w3 := ⟨hB3.out.kept HI.out.2.c (fun e => by simp only at e; omega), hB3.out.kept HI.out.2.f0 (fun e => by simp only at e; omega), hB3.out.kept HI.out.2.f1 (fun e => by simp only at e; omega)⟩
              clear HU hU3 hB3 HI
              gi_wp2
              exact ⟨hk3.from _, hk3.walks, hK3, hw3, hM3, g4, g5⟩
            case done =>
              rintro E W hE ⟨g1, _, _, g4, _⟩ hD
              have hne : E ∉ rs := fun hm => by have := g4 E hm; omega
              rw [Pl.clsTo_all, ← htk.out] at g1
              have HE := Lib.hid (g1.mark (E := E) (by omega) hD)
              clear g1 HS2 hMK
              gi_wp2
              refine hK.out _ _ (Handed.intro (n - (j + 1)) (by omega) (hJ.out _ _ _ ?_))
              exact ⟨_, _, _, _, _, _, _, _, _, _, _, _, _, _, _, _, _, _, _, _, _, _, _, _, j + 1, E :: rs, ⟨by omega, rfl, Lib.hid (List.nodup_cons.2 ⟨hne, HN.out⟩), HE⟩, rfl⟩
          · have hX : Hid (Below wq.heap.size wq ((wq.alloc (Obj.cells #[.int .i64 (t : Int), .bool true] 70)).alloc (Obj.cells #[.int .i64 (-1)] 3))) := Lib.hid (below_alloc (below_alloc (Below.refl _ _) _) _)
            have hXw : ((wq.alloc (Obj.cells #[.int .i64 (t : Int), .bool true] 70)).alloc (Obj.cells #[.int .i64 (-1)] 3)).cell? ⟨wq.heap.size + 1, 0, none⟩ = some (.int .i64 (Pl.sg true)) := by simp [go_sem, Pl.sg]
            have hX0 : ((wq.alloc (Obj.cells #[.int .i64 (t : Int), .bool true] 70)).alloc (Obj.cells #[.int .i64 (-1)] 3)).cell? ⟨wq.heap.size, 0, none⟩ = some (.int .i64 (t : Int)) := by simp [go_sem]
            gi_wp2_with fail
            refine ⟨trivial, ?_⟩
            refine (callsIn_wide.2 (HM.out _)).mono ?_
            rintro e w2 ⟨b2, b5, rfl, hMK, hb2, hs2', hs5'⟩
            have HS2 := Lib.hid ((HS.out.below hX.out).below hb2)
            replace hXw := kept1 hXw hb2
            have hsz2 : wq.heap.size + 1 + 1 ≤ w2.heap.size := by have := hb2.size; simp at this; omega
            have hb25 : wq.heap.size + 1 + 1 ≤ b2 ∧ wq.heap.size + 1 + 1 ≤ b5 := by simp at hs2' hs5'; omega
            have hmk := HS.out.mks
            have hrs : ∀ r ∈ rs, r < w2.heap.size := fun r hr => by have := (Array.getElem?_eq_some_iff.1 (hmk r hr).2).1; omega
            replace hrs := Lib.hid hrs
            clear HM hX hX0 hb2 hs2' hs5' hmk hc0 hc1 HS
            gi_wp2_with fail
            refine range_nextV (enc := mvV) (n := 7) (hps := fun _ => rfl) (by omega) (gf := 98) (lb := #[.pointer (some ⟨b2, 0, none⟩), .pointer (some ⟨b5, 0, none⟩)]) rfl (enters_of Tryd.func98 (by kernel_rfl) rfl)
              (moves_hands 6 (by omega) b2 b5 s t ht h1 h6 w2) (Below.refl _ _)
              (KI w w2.heap.size w.heap.size (w.heap.size + 1) lb wb k cl cw fb (wq.heap.size + 1) b2 b5 s t (G.take j) true rs) (fun _ _ => False) (ki_own _ _ _ _ _ _ _ _ _ _ _ _ _ _ _ _ _ _) (fun _ _ _ _ h _ _ => h) ?keep ?init ?a1true ?assign ?body ?done ?stop
            case keep => exact fun pre W h => h.2.2.1
            case init => exact ⟨by rw [Pl.clsTo_nil]; exact HS2.out, hXw, hMK.out, hrs.out, by omega⟩
            case assign =>
              intro l x W K' hK'
              simp only [mvV] at hK' ⊢
              gi_wp2
              exact hK'
            case stop => exact fun _ _ _ _ _ h _ => h.elim
            case body =>
              rintro l pre ⟨c, d⟩ W ⟨g1, g2, g3, g4, g5⟩ hpre
              have hmem : (c, d) ∈ Pl.mvs s t (s * s) := hpre.subset (by simp)
              obtain ⟨hc, hd⟩ := Pl.mvs_mem hmem
              simp only at hc hd
              have hd2 : d < s * s := by rw [hd]; exact Pl.tk_lt h6 hc ht
              rw [hN] at hc hd2
              have hCL := Pl.clsTo_CL h6 hGt.out true ht (pre := pre) (fun e he => hpre.subset (by simp [he]))
              rw [hN] at hCL
              have HU := Lib.hid (unite_any w.heap.size (w.heap.size + 1) lb wb k cl cw c d true _ _ hc hd2 hs3 (Lib.hid hCL.lt) (Lib.hid hCL.tri) hKN.out.ne W (Lib.hid g1.u))
              have hfn := g1.f
              have hsn := Lib.hid (Pl.clsTo_snoc s (G.take j) true pre (c, d))
              have HI : Hid (KC w W w.heap.size (w.heap.size + 1) lb wb k cl cw fb (Pl.clsTo s (G.take j) true pre) rs ∧ MK b2 b5 s t W) := Lib.hid ⟨g1, g3⟩
              have entc := Lib.hid entC
              have ent : ∀ args W, (callFunc 78 args).run Tryd.prog W = .ok (.enter 78 args) W := entc.out
              replace hCL := Lib.hid hCL
              simp only [Pl.sg, if_true] at g2 HU
              clear g1 g3 hmem hpre HS2 hMK hd
              gi_wp2_with fail
              refine ⟨trivial, ?_⟩
              refine (CallsIn.inRound _ (callsIn_wide.2 HU.out)).mono ?_
              rintro e w3 ⟨rfl, hU3, hB3⟩
              have hk3 := keepsU hB3.out HI.out.1.u.l HI.out.1.u.w hs1
              have hl1 := hCL.out.l
              have hl2 := hCL.out.w
              have hK3 : KC w w3 w.heap.size (w.heap.size + 1) lb wb k cl cw fb (Pl.clsTo s (G.take j) true (pre ++ [(c, d)])) rs := HI.out.1.next hKN.out hs1 hB3.out hU3.out (fun q hq => by rw [hsn.out]; exact (Pl.lsF_unl (by omega) _ _).symm) (fun q hq => by rw [hsn.out]; exact (Pl.wsF_unl (by omega) (by omega) _ _ _).symm)
              have hw3 := hB3.out.kept g2 (fun e => by simp only at e; omega)
              have hM3 : MK b2 b5 s t w3 := ⟨hB3.out.kept HI.out.2.c (fun e => by simp only at e; omega), hB3.out.kept HI.out.2.f0 (fun e => by simp only at e; omega), hB3.out.kept HI.out.2.f1 (fun e => by simp only at e; omega)⟩
              clear HU hU3 hB3 HI
              gi_wp2
              exact ⟨hk3.from _, hk3.walks, hK3, hw3, hM3, g4, g5⟩
            case done =>
              rintro E W hE ⟨g1, _, _, g4, _⟩ hD
              have hne : E ∉ rs := fun hm => by have := g4 E hm; omega
              rw [Pl.clsTo_all, ← htk.out] at g1
              have HE := Lib.hid (g1.mark (E := E) (by omega) hD)
              clear g1 HS2 hMK
              gi_wp2
              refine hK.out _ _ (Handed.intro (n - (j + 1)) (by omega) (hJ.out _ _ _ ?_))
              exact ⟨_, _, _, _, _, _, _, _, _, _, _, _, _, _, _, _, _, _, _, _, _, _, _, _, j + 1, E :: rs, ⟨by omega, rfl, Lib.hid (List.nodup_cons.2 ⟨hne, HN.out⟩), HE⟩, rfl⟩
        · obtain rfl : j = n := by omega
          have hi5 : ¬ (j : Int) < (j : Int) := by omega
          have hall : G.take j = G := List.take_of_length_le (by have := hn.out; omega)
          rw [hall] at HS
          clear hall
          gi_wp2
          rw [← hQ0.out]
          refine hK0.out _ _ ?_
          clear hK0 hQ0 hJ hK
          have k3 := HS.out.u.c3
          have k4 := HS.out.u.c4
          have k5 := HS.out.f3
          have k6 := HS.out.f4
          gi_wp2
          gi_region
          gi_wp2
          exact classes_end HS.out hKN.out hs1 HN.out rfl rfl
end Go.Proofs.YtidcedilfhmllaaDoor

/- Contracts of package plate: freedom, proves. -/
namespace Go.Proofs.YtidcedilfhmllaaDoor
open Go.RowKit

theorem evs_le (N : Nat) (l : Nat → Nat) (w : Nat → Int) : (Pl.evs N l w).length ≤ N := by
  unfold Pl.evs
  have := List.length_filter_le (fun x => decide (l x = x) && decide (w x ≠ 0)) (List.range N)
  rw [List.length_range] at this
  exact this

set_option maxRecDepth 100000 in
set_option maxHeartbeats 4000000 in
theorem freedom_any (s : Nat) (h1 : 1 ≤ s) (h6 : s ≤ 6) (a : Option Addr) (n cap : Nat) (G : List (Nat × Bool)) (hn : Hid (G.length = n)) (hn2 : n ≤ 1000) (hG : Hid (∀ g ∈ G, g.1 < 8)) (w : World) (hg : Hid (SgsAt w a G)) :
    Calls Tryd.prog 52 #[.int .i64 (s : Int), .slice a n cap] w fun e w' => e = .returned (.int .i64 (Pl.frd s G)) ∧ Below w.heap.size w w' := by
  have HC := Lib.hid (classes_any s h1 h6 a n cap G hn hn2 hG w hg)
  have HM := Lib.hid (fun (W : World) (hb : Below w.heap.size w W) => containsMinus_any a cap G n hn hn2 W (Lib.hid (hg.out.below hb)))
  have hs3 : s * s ≤ 36 := Nat.mul_le_mul h6 h6
  obtain ⟨N, hN⟩ : ∃ N, s * s = N := ⟨_, rfl⟩
  have hev := evs_le N (Pl.lsF (Pl.clsL s G).1) (Pl.wsF (Pl.clsL s G).2)
  have hfr : Pl.frd s G = ((Pl.evs N (Pl.lsF (Pl.clsL s G).1) (Pl.wsF (Pl.clsL s G).2)).length : Int) - if G.any (·.2) then 0 else 1 := by
    unfold Pl.frd Pl.free Pl.minusS
    rw [hN]
  rw [hN] at HC hs3
  obtain ⟨L, hL⟩ : ∃ L, (Pl.evs N (Pl.lsF (Pl.clsL s G).1) (Pl.wsF (Pl.clsL s G).2)).length = L := ⟨_, rfl⟩
  rw [hL] at hfr hev
  rw [hfr]
  clear hfr
  go_enter Tryd.func52, Tryd.ntmps52
  go_wp2_with fail
  refine HC.out.mono ?_
  rintro e w1 ⟨lb, wb, cl, cw, rfl, hl, hw, _, _, _, hb1⟩
  clear HC
  go_wp2_with fail
  refine (evenClasses_any lb wb N cl cw _ _ hs3 w1 hl hw).mono ?_
  rintro e w2 ⟨v, rfl, ho, hb2⟩
  have ho2 := ho.out
  rw [hL] at ho2
  obtain ⟨p, cp, rfl⟩ := ownForm ho2
  clear ho2 hL
  have hb := hb1.trans (hb2.mono hb1.size)
  clear ho hl hw hb1 hb2
  go_wp2_with fail
  refine (HM.out w2 hb).mono ?_
  rintro e w3 ⟨rfl, hb3⟩
  have hb9 := hb.trans (hb3.mono hb.size)
  cases hm : G.any (·.2)
  · go_wp2
    all_goals refine bodyPost_ret (v := .int .i64 ((L : Int) - 1)) (by simp [results, Tryd.results52, go_sem]) rfl ?_
    all_goals exact ⟨rfl, hb9⟩
  · go_wp2
    go_ret
    exact ⟨by simp, hb9⟩

/-- proves -/
theorem proves_any (s : Nat) (h1 : 1 ≤ s) (h6 : s ≤ 6) (a : Option Addr) (n cap : Nat) (G : List (Nat × Bool)) (hn : Hid (G.length = n)) (hn2 : n ≤ 1000) (hG : Hid (∀ g ∈ G, g.1 < 8)) (w : World) (hg : Hid (SgsAt w a G)) :
    Calls Tryd.prog 70 #[.int .i64 (s : Int), .slice a n cap] w fun e w' => e = .returned (.bool (Pl.frd s G == 0)) ∧ Below w.heap.size w w' := by
  have HF := Lib.hid (freedom_any s h1 h6 a n cap G hn hn2 hG w hg)
  go_enter Tryd.func70, Tryd.ntmps70
  go_wp2_with fail
  refine HF.out.mono ?_
  rintro e w1 ⟨rfl, hb1⟩
  go_wp2
  go_ret
  exact ⟨rfl, hb1⟩
end Go.Proofs.YtidcedilfhmllaaDoor
