/- What the claims of layer 2 share, part 2: several texts one behind the other. -/
import Derived.ArgAppend
import Derived.RangeFuncWrites
import Derived.RangeFuncStops
import Derived.RangeFuncNested
import Derived.StillTail
import Derived.Deep.RegionHeld3
import Derived.RegionIn
import Derived.LoopIn
import Derived.LoopNIn
import Derived.OwnWalkIn
import Derived.RangeFuncBound
import Derived.RangeFuncCalls
import Derived.RangeFuncGives
import Derived.RangeFuncLeaves
import Derived.BigRegionIn
import Derived.Test.YtemacokojdeimaaGreatDoorZ01
set_option linter.unusedSimpArgs false
set_option linter.unusedVariables false
/- Contracts of package chain: the queue. -/
namespace Go.Proofs.YtemacokojdeimaaGreatDoor
open Go.RowKit

theorem infoInt : (Tryz.prog.info? 3).map (fun i => (i.zero, i.size, i.bytes)) = some (some (.int .i64 0), 1, 8) := by kernel_rfl

/-- the row behind a queue's slice -/
def QRow (w : World) (qb : Nat) (a : Option Addr) (cap : Nat) (go : Option Nat) (Q : List Int) : Prop :=
  (a = none ∧ cap = 0 ∧ go = none) ∨
  ∃ g off N f, a = some ⟨g, off, none⟩ ∧ go = some g ∧ g ≠ qb ∧ w.rowIs g 3 N f ∧ off + cap ≤ N ∧ ∀ k, k < Q.length → f (off + k) = .int .i64 (Q.getD k 0)

/-- a queue that lies in a block: what it holds; go: the block of its row -/
def QAt (w : World) (qb : Nat) (go : Option Nat) (Q : List Int) : Prop :=
  ∃ a cap, w.rowIs qb 120 1 (fun _ => .slice a Q.length cap) ∧ Q.length ≤ cap ∧ QRow w qb a cap go Q

theorem QAt.but {T : Nat → Prop} {w w' : World} {qb : Nat} {go : Option Nat} {Q : List Int} (h : QAt w qb go Q) (hb : But T w w') (h1 : ¬ T qb) (h2 : ∀ g, go = some g → ¬ T g) : QAt w' qb go Q := by
  obtain ⟨a, cap, r, hc, hr⟩ := h
  refine ⟨a, cap, hb.row r h1, hc, ?_⟩
  rcases hr with hr | ⟨g, off, N, f, ha, hg, hne, r2, hN, hf⟩
  · exact .inl hr
  · exact .inr ⟨g, off, N, f, ha, hg, hne, hb.row r2 (h2 g hg), hN, hf⟩

set_option maxHeartbeats 400000 in
theorem take_none (qb : Nat) (go : Option Nat) (w : World) (h : QAt w qb go []) :
    Calls Tryz.prog 79 #[.pointer (some ⟨qb, 0, none⟩)] w fun e w' => e = .returned (.tuple #[.int .i64 0, .bool false]) ∧ w' = w := by
  obtain ⟨a, cap, r, hc, hr⟩ := h
  have hc0 := r.cell (i := 0) (by omega)
  simp only [List.length_nil] at hc0
  clear r hr
  go_enter Tryz.func79, Tryz.ntmps79
  go_wp2
  go_ret2
  exact ⟨rfl, rfl⟩

theorem take_row {w : World} {qb : Nat} {go : Option Nat} {z : Int} {Q : List Int} {g off cap N : Nat} {f : Nat → Value} (hq : w.rowIs qb 120 1 (fun _ => .slice (some ⟨g, off, none⟩) (Q.length + 1) cap)) (hc : Q.length + 1 ≤ cap) (hg : go = some g) (hne : g ≠ qb)
    (hr : w.rowIs g 3 N f) (hN : off + cap ≤ N) (hf : ∀ k, k < (z :: Q).length → f (off + k) = .int .i64 ((z :: Q).getD k 0)) (o2 c2 : Nat) (h2 : c2 = cap - 1) (ho : o2 = off + 1 ∨ (cap = 1 ∧ o2 = off)) :
    QAt (w.setCell ⟨qb, 0, none⟩ (.slice (some ⟨g, o2, none⟩) Q.length c2)) qb go Q := by
  subst h2
  refine ⟨_, _, World.rowIs.congr (g := fun _ => .slice (some ⟨g, o2, none⟩) Q.length (cap - 1)) (hq.set 0 (.slice (some ⟨g, o2, none⟩) Q.length (cap - 1))) (fun i hi => if_pos (show i = 0 by omega)), by omega, .inr ⟨g, o2, N, f, rfl, hg, hne, hr.setOther (a := ⟨qb, 0, none⟩) hne _, by omega, fun k hk => ?_⟩⟩
  rcases ho with rfl | ⟨h1, rfl⟩
  · have := hf (k + 1) (by simp; omega)
    rw [List.getD_cons_succ] at this
    rw [show off + 1 + k = off + (k + 1) by omega]; exact this
  · omega

set_option maxHeartbeats 1000000 in
theorem take_some (qb : Nat) (go : Option Nat) (z : Int) (Q : List Int) (w : World) (h : QAt w qb go (z :: Q)) :
    Calls Tryz.prog 79 #[.pointer (some ⟨qb, 0, none⟩)] w fun e w' => e = .returned (.tuple #[.int .i64 z, .bool true]) ∧ QAt w' qb go Q ∧ But (fun k => k = qb) w w' := by
  obtain ⟨a, cap, r, hc, hr⟩ := h
  rcases hr with ⟨rfl, rfl, _⟩ | ⟨g, off, N, f, rfl, hg, hne, r2, hN, hf⟩
  · simp at hc
  · subst hg
    have T := Lib.hid (fun o2 c2 h2 ho => take_row r hc rfl hne r2 hN hf o2 c2 h2 ho)
    have hc0 := r.cell (i := 0) (by omega)
    have hc1 := r2.cell (i := off) (by simp at hc; omega)
    have hfr := r.frozen 0
    have hf0 := hf 0 (by simp)
    rw [Nat.add_zero] at hf0
    rw [hf0] at hc1
    simp only [List.length_cons, List.getD_cons_zero] at hc0 hc1 hc
    have i1 : (0 : Int) < (Q.length : Int) + 1 := by omega
    have i2 : (1 : Int) ≤ (Q.length : Int) + 1 := by omega
    have i3 : (Q.length : Int) + 1 ≤ (cap : Int) := by omega
    clear r r2 hf hf0
    go_enter Tryz.func79, Tryz.ntmps79
    go_wp2
    all_goals go_ret2
    all_goals first
      | exact ⟨rfl, T.out _ _ (by first | rfl | omega) (.inl rfl), (But.refl (fun k => k = qb) w).setCell (p := ⟨qb, 0, none⟩) (.inr rfl) _⟩
      | exact ⟨rfl, T.out _ _ (by first | rfl | omega) (.inr ⟨by omega, rfl⟩), (But.refl (fun k => k = qb) w).setCell (p := ⟨qb, 0, none⟩) (.inr rfl) _⟩
theorem put_room {w : World} {qb g off cap N : Nat} {go : Option Nat} {f : Nat → Value} {Q : List Int} {z : Int} {o : Obj} (hq : w.rowIs qb 120 1 (fun _ => .slice (some ⟨g, off, none⟩) Q.length cap)) (hc : Q.length + 1 ≤ cap) (hg : go = some g) (hne : g ≠ qb)
    (hr : w.rowIs g 3 N f) (hN : off + cap ≤ N) (hf : ∀ k, k < Q.length → f (off + k) = .int .i64 (Q.getD k 0)) (w1 : World) (hw1 : w1 = (w.alloc o).setCell ⟨g, off + Q.length, none⟩ (.int .i64 z)) :
    QAt (w1.setCell ⟨qb, 0, none⟩ (.slice (some ⟨g, off, none⟩) (Q.length + 1) cap)) qb go (Q ++ [z]) ∧ But (fun k => k = qb ∨ go = some k) w (w1.setCell ⟨qb, 0, none⟩ (.slice (some ⟨g, off, none⟩) (Q.length + 1) cap)) := by
  subst hw1
  refine ⟨⟨_, cap, World.rowIs.congr (g := fun _ => .slice (some ⟨g, off, none⟩) (Q ++ [z]).length cap) (((hq.alloc o).setOther (a := ⟨g, off + Q.length, none⟩) (Ne.symm hne) _).set 0 (.slice (some ⟨g, off, none⟩) (Q.length + 1) cap)) (fun i hi => by rw [if_pos (show i = 0 by omega)]; simp), by simpa using hc, .inr ⟨g, off, N, _, rfl, hg, hne, (((hr.alloc o).set (off + Q.length) (.int .i64 z)).setOther (a := ⟨qb, 0, none⟩) hne _), hN, fun k hk => ?_⟩⟩, ?_⟩
  · simp only [List.length_append, List.length_cons, List.length_nil] at hk
    by_cases hk2 : k = Q.length
    · subst hk2
      rw [if_pos rfl]
      simp [List.getD]
    · rw [if_neg (by omega), hf k (by omega)]
      simp [List.getD, List.getElem?_append_left (show k < Q.length by omega)]
  · exact ((But.refl _ _).alloc _).setCell (.inr (.inr hg)) _ |>.setCell (.inr (.inl rfl)) _

theorem put_new {w w1 : World} {qb n : Nat} {go : Option Nat} {u : Nat → Value} {Q : List Int} {z : Int} {o : Obj} {v : Value} (hq : w.rowIs qb 120 n u) (hn : n = 1) (hown : w1.ownsRow (w.alloc o).heap.size 3 1 v (Q.length + 1) (Q.map (Value.int .i64) ++ [.int .i64 z])) (hgr : (w.alloc o).grownBy w1 none) :
    ∃ g, w.heap.size ≤ g ∧ g < (w1.setCell ⟨qb, 0, none⟩ v).heap.size ∧ QAt (w1.setCell ⟨qb, 0, none⟩ v) qb (some g) (Q ++ [z]) ∧ But (fun k => k = qb ∨ go = some k) w (w1.setCell ⟨qb, 0, none⟩ v) := by
  subst hn
  obtain ⟨g, cap, f, rfl, hb, hle, hcm, hr, hf⟩ := owns_row hown (by omega)
  have hsz : (w.alloc o).heap.size = w.heap.size + 1 := by simp
  have hq1 : w1.rowIs qb 120 1 u := by
    have h1 := hq.alloc o
    exact h1.of_block (hgr.block qb h1.lt (by simp))
  have hne : g ≠ qb := by have := hq.lt; omega
  refine ⟨g, by omega, by have := hr.lt; simpa using this, ⟨_, cap, World.rowIs.congr (g := fun _ => .slice (some ⟨g, 0, none⟩) (Q ++ [z]).length cap) (hq1.set 0 (.slice (some ⟨g, 0, none⟩) (Q.length + 1) cap)) (fun i hi => by rw [if_pos (show i = 0 by omega)]; simp), by simpa using hle, .inr ⟨g, 0, cap, f, rfl, rfl, hne, hr.setOther (a := ⟨qb, 0, none⟩) hne _, by omega, fun k hk => ?_⟩⟩, ?_⟩
  · simp only [List.length_append, List.length_cons, List.length_nil] at hk
    have h1 := hf k (by omega)
    rw [Nat.zero_add]
    have h2 : (Q.map (Value.int .i64) ++ [.int .i64 z])[k]? = some (.int .i64 ((Q ++ [z]).getD k 0)) := by
      have h3 : (Q.map (Value.int .i64) ++ [.int .i64 z]) = (Q ++ [z]).map (Value.int .i64) := by simp
      rw [h3, List.getElem?_map, List.getD, List.getElem?_eq_getElem (by simp; omega)]; rfl
    exact Option.some.inj (h1.symm.trans h2)
  · exact (((But.refl _ _).alloc _).grown hgr (by simp)).setCell (.inr (.inl rfl)) _

set_option maxRecDepth 100000 in
set_option maxHeartbeats 2000000 in
theorem put_any (qb : Nat) (go : Option Nat) (z : Int) (Q : List Int) (hQ : Q.length < 1000000) (w : World) (h : QAt w qb go Q) :
    Calls Tryz.prog 78 #[.pointer (some ⟨qb, 0, none⟩), .int .i64 z] w fun e w' => e = .returned (.tuple #[]) ∧ ∃ go', QAt w' qb go' (Q ++ [z]) ∧ But (fun k => k = qb ∨ go = some k) w w' ∧ (go' = go ∨ ∃ g, go' = some g ∧ w.heap.size ≤ g ∧ g < w'.heap.size) := by
  obtain ⟨i0, hi, hz0, hz1, hz2⟩ := info_parts infoInt
  obtain ⟨a, cap, r, hc, hr⟩ := h
  have hc0 := r.cell (i := 0) (by omega)
  have hfr := r.frozen 0
  rcases hr with ⟨rfl, rfl, rfl⟩ | ⟨g, off, N, f, rfl, hg, hne, r2, hN, hf⟩
  · obtain rfl : Q = [] := List.eq_nil_of_length_eq_zero (by omega)
    have T := Lib.hid (fun w1 v hown hgr => put_new (go := none) (Q := []) (z := z) (w1 := w1) (v := v) (o := Obj.cells #[.int .i64 z] 3) r rfl hown hgr)
    simp only [List.length_nil] at hc0
    clear r
    go_enter Tryz.func78, Tryz.ntmps78
    go_wp2_with (first
      | (at_builtin; refine wpList_append_grows _ rfl (.tmp 8) (.tmp 10) 41 rfl 3 i0 (.int .i64 0) 1 8 Tryz.underlying41 hi hz0 hz1 hz2 rfl (by decide) none 0 0 [] rfl (fun _ => ⟨rfl, rfl⟩) rfl (by simp) ⟨w.heap.size, 0, none⟩ 1 1 [.int .i64 z] rfl rfl ?c1 ?c2 (by omega) (by unfold maxLen; omega) (by omega) ?_)
      | go_in)
    case c1 =>
      intro j u hj
      match j, hj with
      | 0, hj => simp at hj; subst hj; simp [Addr.add]
    case c2 => intro u hu; simp at hu; subst hu; rfl
    intro v' w1 hown hgr
    have R := T.out w1 v' (by simpa using hown) hgr
    have hqb : qb < w.heap.size := block_lt_of_cell hc0
    have hc1 : w1.cell? ⟨qb, 0, none⟩ = some (.slice none 0 0) := (World.cell?_of_block (hgr.block qb (by simp; omega) (by simp))).trans (cell_alloc hc0 _)
    have hf1 : w1.frozen? ⟨qb, 0, none⟩ = false := (World.frozen?_of_block (hgr.block qb (by simp; omega) (by simp))).trans (by simp [go_sem, hqb]; exact hfr)
    obtain ⟨g, cap, rfl, _⟩ := hown.form (by omega)
    replace R := Lib.hid R
    clear hown hgr T hc0 hfr
    go_wp2
    refine bodyPost_end (v := .tuple #[]) (by simp [results, Tryz.results78, go_sem]) rfl ?_
    obtain ⟨g', h1, h2, h3, h4⟩ := R.out
    exact ⟨rfl, some g', h3, h4, .inr ⟨g', rfl, h1, h2⟩⟩
  · subst hg
    have T1 := Lib.hid (fun hc2 w1 hw1 => put_room (z := z) (o := Obj.cells #[.int .i64 z] 3) (cap := cap) r hc2 rfl hne r2 hN hf w1 hw1)
    have T2 := Lib.hid (fun w1 v hown hgr => put_new (go := some g) (Q := Q) (z := z) (w1 := w1) (v := v) (o := Obj.cells #[.int .i64 z] 3) r rfl hown hgr)
    have HA := Lib.hid (r2.alloc (Obj.cells #[.int .i64 z] 3))
    have HQ := Lib.hid (r.alloc (Obj.cells #[.int .i64 z] 3))
    have hN2 := Lib.hid hN
    have hf2 := Lib.hid hf
    have hne2 := Lib.hid hne
    clear r r2 hN hf hne
    go_enter Tryz.func78, Tryz.ntmps78
    go_wp2_with (first
      | (at_builtin; refine wpList_append_arg _ rfl (.tmp 8) (.tmp 10) 41 rfl 3 i0 (.int .i64 0) 1 8 Tryz.underlying41 hi hz0 hz1 hz2 rfl (by decide) g off Q.length cap (Q.map (Value.int .i64)) rfl (by simp) ?holds ⟨w.heap.size, 0, none⟩ 1 1 [.int .i64 z] rfl rfl ?d1 ?d2 ?spare (by unfold maxLen; omega) (by omega) ?room ?grow)
      | go_in)
    case holds =>
      intro j u hj
      have hjl : j < Q.length := by have := (List.getElem?_eq_some_iff.1 hj).1; simpa using this
      rw [HA.out.cell (by have := hN2.out; omega), hf2.out j hjl]
      rw [List.getElem?_map, List.getElem?_eq_getElem hjl] at hj
      rw [List.getD, List.getElem?_eq_getElem hjl]
      exact hj
    case d1 =>
      intro j u hj
      match j, hj with
      | 0, hj => simp at hj; subst hj; simp [Addr.add]
    case d2 => intro u hu; simp at hu; subst hu; rfl
    case spare =>
      intro h j hj
      obtain rfl : j = 0 := by simpa using hj
      exact ⟨by rw [HA.out.cell (by have := hN2.out; omega)]; rfl, HA.out.frozen _⟩
    case room =>
      intro hroom
      obtain ⟨w1, hw1⟩ : ∃ w1, World.setCells (w.alloc (Obj.cells #[.int .i64 z] 3)) g (off + Q.length) [.int .i64 z] = w1 := ⟨_, rfl⟩
      rw [hw1]
      have hw2 : w1 = (w.alloc (Obj.cells #[.int .i64 z] 3)).setCell ⟨g, off + Q.length, none⟩ (.int .i64 z) := by rw [← hw1]; simp [World.setCells]
      have hq1 : w1.rowIs qb 120 1 (fun _ => .slice (some ⟨g, off, none⟩) Q.length cap) := by rw [hw2]; exact HQ.out.setOther (a := ⟨g, off + Q.length, none⟩) (Ne.symm hne2.out) _
      have hc1 := hq1.cell (i := 0) (by omega)
      have hf1 := hq1.frozen 0
      have R := Lib.hid (T1.out hroom w1 hw2)
      clear hq1 hw1 hw2 T1 T2 HA HQ hc0 hfr hN2 hf2
      go_wp2
      refine bodyPost_end (v := .tuple #[]) (by simp [results, Tryz.results78, go_sem]) rfl ?_
      exact ⟨rfl, some g, R.out.1, R.out.2, .inl rfl⟩
    case grow =>
      intro hfull v' w1 hown hgr
      have R := T2.out w1 v' (by simpa using hown) hgr
      have hqb : qb < w.heap.size := block_lt_of_cell hc0
      have hc1 : w1.cell? ⟨qb, 0, none⟩ = some (.slice (some ⟨g, off, none⟩) Q.length cap) := (World.cell?_of_block (hgr.block qb (by simp; omega) (by simp))).trans (cell_alloc hc0 _)
      have hf1 : w1.frozen? ⟨qb, 0, none⟩ = false := (World.frozen?_of_block (hgr.block qb (by simp; omega) (by simp))).trans (by simp [go_sem, hqb]; exact hfr)
      obtain ⟨g2, cap2, rfl, _⟩ := hown.form (by omega)
      replace R := Lib.hid R
      clear hown hgr T1 T2 HA HQ hc0 hfr hN2 hf2
      go_wp2
      refine bodyPost_end (v := .tuple #[]) (by simp [results, Tryz.results78, go_sem]) rfl ?_
      obtain ⟨g', h1, h2, h3, h4⟩ := R.out
      exact ⟨rfl, some g', h3, h4, .inr ⟨g', rfl, h1, h2⟩⟩
end Go.Proofs.YtemacokojdeimaaGreatDoor

/- A loop over an iterator that hands out a known list of values: the body is asked only at the value that comes next. -/
namespace Go.Proofs.YtemacokojdeimaaGreatDoor
open Go.RowKit
attribute [local go_sem] Oper.semAt_some

/-- the loop's own two blocks, and what the caller keeps -/
structure Held (rec : LoopState → Option Code → Loop) (b : Nat) (st : LoopState) (pe : Option Code) (X : Prop) (W : World) : Prop where
  own : X
  loop : W.heap[b + 1]? = some (.loop (rec st pe))
  defs : W.heap[b]? = some (.deferred (some []))

/-- what an iterator does that hands out the values L, one behind the other, in worlds that keep what it reads -/
def HandsG {α : Type} (enc : α → Value) (n : Nat) (P : Program) (gf : Nat) (lb : Array Value) (L : List α) (Keep : World → Prop) (w0 : World) : Prop :=
  ∀ (l : Nat) (J Jx : List α → World → Prop) (W : World), Below w0.heap.size w0 W → AbidesFrom W.heap.size J → (∀ pre W1, J pre W1 → Keep W1) →
    (∀ pre x W1, J pre W1 → pre ++ [x] <+: L → YieldAt Fence.wide (n - 1) P l #[enc x] W1 fun e W' =>
      (e = .returned (.bool true) ∧ J (pre ++ [x]) W' ∧ KeepsWalks W1 W') ∨ (e = .returned (.bool false) ∧ Jx (pre ++ [x]) W')) →
    J [] W →
    CallsIn Fence.wide n P gf (#[.func (.yield l) #[] #[]] ++ lb) W fun e W' => (∃ v, e = .returned v) ∧ (J L W' ∨ ∃ pre, pre <+: L ∧ Jx pre W')

variable {P : Program} {n : Nat}

theorem range_nextG {α : Type} {enc : α → Value} {g : Operand} {t1 : Tmp} {assign body : Code} {Q : Exit → Act → World → Prop} {a : Act} {w : World} (h1 : 1 ≤ n) {gf : Nat} {lb : Array Value}
    (hg : a.eval g = .func (.func gf) #[] lb) (eg : ∀ args w, (callFunc gf args).run P w = .ok (.enter gf args) w) {L : List α} {w0 : World} {Keep : World → Prop} (hseq : HandsG enc (n - 1) P gf lb L Keep w0) (hb0 : Below w0.heap.size w0 w)
    (I : List α → World → Prop) (Ix : List α → World → Prop) (hI : OwnFrom w.heap.size I) (hIx : OwnFrom w.heap.size Ix) (hKeep : ∀ pre W, I pre W → Keep W) (h0 : I [] w) (a₁ : α → Act)
    (hassign : ∀ (l : Nat) (x : α) (W : World) (K : Act → World → Prop), K (a₁ x) W →
      assign.wpIn (Fence.wide.inRound l) (n - 1 - 1) P (Exit.then K (fun _ _ _ => False)) { tmps := (#[t1].zip #[enc x]).foldl (fun t (p, v) => t.setIfInBounds p v) a.tmps, defers := [] } W)
    (hbody : ∀ (l : Nat) (pre : List α) (x : α) (W : World), I pre W → pre ++ [x] <+: L → body.wpIn (Fence.wide.inRound l) (n - 1 - 1) P (fun e _ W' => match e with
      | .normal => KeepsFrom w.heap.size W W' ∧ KeepsWalks W W' ∧ I (pre ++ [x]) W'
      | .ret => KeepsFrom w.heap.size W W' ∧ Ix (pre ++ [x]) W'
      | _ => False) (a₁ x) W)
    (hdone : ∀ (D : Nat) (W : World), w.heap.size ≤ D → I L W → W.heap[D]? = some (.deferred (some [])) → Q .normal { a with defers := { target := .collected D, args := #[] } :: a.defers } W)
    (hstop : ∀ (D : Nat) (pre : List α) (W : World), w.heap.size ≤ D → pre <+: L → Ix pre W → W.heap[D]? = some (.deferred (some [])) → Code.ret.wpIn Fence.wide n P Q { a with defers := { target := .collected D, args := #[] } :: a.defers } W) :
    (Code.rangeFunc g #[t1] assign body).wpIn Fence.wide n P Q a w := by
  refine wpIn_rangeFunc ?_
  intro fn hfn
  obtain ⟨rec, hrec⟩ : ∃ rec : LoopState → Option Code → Loop, rec = fun st pe => { state := st, pending := pe, fn, tmps := a.tmps, params := #[t1], assign, body, defers := w.heap.size } := ⟨_, rfl⟩
  have hq : ∀ st pe, rec st pe = { state := st, pending := pe, fn, tmps := a.tmps, params := #[t1], assign, body, defers := w.heap.size } := fun st pe => by rw [hrec]
  clear hrec
  -- the world in which the iterator begins: two new blocks
  obtain ⟨W1, hW1⟩ : ∃ W1, (w.alloc (.deferred (some []))).alloc (.loop (rec .ready none)) = W1 := ⟨_, rfl⟩
  have hz : w.heap.size + 1 + 1 ≤ W1.heap.size := by rw [← hW1]; simp
  have start : Held rec w.heap.size .ready none (I [] W1) W1 := by
    refine ⟨?_, ?_, ?_⟩
    · rw [← hW1]; exact hI.alloc _ (hI.alloc _ h0)
    · have := World.alloc_heap_new (w.alloc (.deferred (some []))) (.loop (rec .ready none))
      rw [World.size_alloc] at this
      rw [← hW1]; exact this
    · rw [← hW1]; exact (Below.heap_alloc _ _ _ (by simp)).trans (World.alloc_heap_new w _)
  have hb1 : Below w0.heap.size w0 W1 := by
    rw [← hW1]; exact hb0.trans ((((Below.refl _ w).alloc (Nat.le_refl _) _).alloc (by simp) _).mono hb0.size)
  refine ⟨w.heap.size + 1, [{ target := .collected w.heap.size, args := #[] }], W1, { target := .fn (.func gf) lb, args := #[.func (.yield (w.heap.size + 1)) #[] #[]] }, W1, gf, #[.func (.yield (w.heap.size + 1)) #[] #[]] ++ lb, W1,
    by rw [← hW1, hq]; exact run_enterLoop_outer _ _ _ _ _, by simp only [resolve, hg]; simp [go_sem], fun _ _ => trivial, by simp [invoke, go_sem, eg], fun _ => h1, ?_⟩
  clear hW1 h0 hb0
  -- what the caller keeps abides the iterator's own steps
  have far : ∀ {A : World} {row : Option Nat}, (∀ r, row = some r → W1.heap.size ≤ r ∧ ∃ o : Obj, A.heap[r]? = some o ∧ o.isWalk = true) → ∀ r, row = some r → w.heap.size ≤ r ∧ ∃ o : Obj, A.heap[r]? = some o ∧ o.isCells = false := by
    intro A row hr r e
    obtain ⟨h2, o, h3, h4⟩ := hr r e
    exact ⟨by omega, o, h3, Obj.not_cells_of_walk h4⟩
  have abide : ∀ (K : List α → World → Prop), OwnFrom w.heap.size K → ∀ st pe, AbidesFrom W1.heap.size fun pre W => Held rec w.heap.size st pe (K pre W) W := by
    intro K hK st pe p A B row hs hgr hr
    have keep := fun {k : Nat} {o : Obj} (h : A.heap[k]? = some o) (ho : o.isWalk = false) => (grownBy_keeps hgr (fun r e => (hr r e).2) h ho).trans h
    exact ⟨hK p A B row hs.own hgr (far hr), keep hs.loop rfl, keep hs.defs rfl⟩
  -- a turn of the loop's own record
  have turn : ∀ (K : List α → World → Prop), OwnFrom w.heap.size K → ∀ pre W st pe st' pe', Held rec w.heap.size st pe (K pre W) W → Held rec w.heap.size st' pe' (K pre (W.putObj (w.heap.size + 1) (.loop (rec st' pe')))) (W.putObj (w.heap.size + 1) (.loop (rec st' pe'))) := by
    intro K hK pre W st pe st' pe' h
    exact ⟨hK.putObj _ h.own (by omega) h.loop rfl, World.putObj_heap_same (Array.getElem?_eq_some_iff.1 h.loop).1, (World.putObj_heap_other (by omega)).trans h.defs⟩
  refine (hseq (w.heap.size + 1) (fun pre W => Held rec w.heap.size .ready none (I pre W) W) (fun pre W => Held rec w.heap.size .done (some .ret) (Ix pre W) W) W1 hb1 (abide I hI _ _) (fun pre W1 h => hKeep pre W1 h.own) ?_ start).mono ?_
  · intro pre x W h hpre
    have hy := run_yield (P := P) (args := #[enc x]) h.loop (by rw [hq]; rfl)
    rw [hq] at hy
    have h2 := turn I hI pre W .ready none .busy none h
    have hbr := run_beginRound (P := P) h.loop (by rw [hq])
    refine ⟨fn, _, assign, body, hy, roundIn_of_wpIn hfn (hassign _ x W _ ⟨_, hbr, ?_⟩)⟩
    have e2 : ({ rec .ready none with state := .busy } : Loop) = rec .busy none := by rw [hq, hq]
    rw [e2]
    have k2 : KeepsWalks W (W.putObj (w.heap.size + 1) (.loop (rec .busy none))) := KeepsWalks.putObj _ h.loop rfl
    refine wpIn_mono (hbody _ pre x _ h2.own hpre) ?_
    intro e a3 W3 hp
    cases e with
    | normal =>
      obtain ⟨hk3, hw3, hi3⟩ := hp
      have h3 : Held rec w.heap.size .busy none (I (pre ++ [x]) W3) W3 := ⟨hi3, hk3.same _ _ (by omega) h2.loop rfl, hk3.same _ _ (Nat.le_refl _) h2.defs rfl⟩
      have hr := run_endRound (P := P) none h3.loop
      have e3 : ({ rec .busy none with state := if (none : Option Code).isNone then .ready else .done, pending := none } : Loop) = rec .ready none := by rw [hq, hq]; rfl
      rw [e3] at hr
      exact ⟨_, _, hr, .inl ⟨rfl, turn I hI _ _ _ _ _ _ h3, (k2.trans hw3).trans (KeepsWalks.putObj _ h3.loop rfl)⟩⟩
    | ret =>
      obtain ⟨hk3, hi3⟩ := hp
      have h3 : Held rec w.heap.size .busy none (Ix (pre ++ [x]) W3) W3 := ⟨hi3, hk3.same _ _ (by omega) h2.loop rfl, hk3.same _ _ (Nat.le_refl _) h2.defs rfl⟩
      have hr := run_endRound (P := P) (some .ret) h3.loop
      have e3 : ({ rec .busy none with state := if (some Code.ret : Option Code).isNone then .ready else .done, pending := some .ret } : Loop) = rec .done (some .ret) := by rw [hq, hq]; rfl
      rw [e3] at hr
      exact ⟨_, _, hr, .inr ⟨rfl, turn Ix hIx _ _ _ _ _ _ h3⟩⟩
    | exit id => exact hp.elim
    | goto t => exact hp.elim
    | panic ch => exact hp.elim
    | outgrown => exact hp.elim
  · rintro e W2 ⟨⟨v, rfl⟩, h | ⟨pre, hpre, h⟩⟩
    · have hr := run_endLoop (P := P) h.loop (by rw [hq]; simp)
      have e3 : ({ rec .ready none with state := .exhausted } : Loop) = rec .exhausted none := by rw [hq, hq]
      rw [e3] at hr
      have h3 := turn I hI _ _ _ _ .exhausted none h
      exact ⟨none, _, by rw [hr, hq], hdone _ _ (Nat.le_refl _) h3.own h3.defs⟩
    · have hr := run_endLoop (P := P) h.loop (by rw [hq]; simp)
      have h3 := turn Ix hIx _ _ _ _ .exhausted (some .ret) h
      have e3 : ({ rec .done (some .ret) with state := .exhausted } : Loop) = rec .exhausted (some .ret) := by rw [hq, hq]
      rw [e3] at hr
      exact ⟨some .ret, _, by rw [hr, hq], hstop _ pre _ (Nat.le_refl _) hpre h3.own h3.defs⟩

theorem pre_next {α : Type} {L pre : List α} {x : α} (h : pre <+: L) (hx : L[pre.length]? = some x) : pre ++ [x] <+: L := by
  obtain ⟨t, rfl⟩ := h
  cases t with
  | nil => simp at hx
  | cons y t => simp at hx; subst hx; exact ⟨t, by simp⟩
theorem pre_last {α : Type} {L pre : List α} {x : α} (h : pre ++ [x] <+: L) : L[pre.length]? = some x := by obtain ⟨t, rfl⟩ := h; simp
end Go.Proofs.YtemacokojdeimaaGreatDoor

/- A loop over an iterator that hands out a known list of values, its variable boxed: each round lays a block. And the marks that such loops leave among the deferred calls. -/
namespace Go.Proofs.YtemacokojdeimaaGreatDoor
open Go.RowKit
attribute [local go_sem] Oper.semAt_some

variable {P : Program} {n : Nat}

theorem range_nextB {α : Type} {enc : α → Value} (box : α → Obj) {g : Operand} {t1 : Tmp} {assign body : Code} {Q : Exit → Act → World → Prop} {a : Act} {w : World} (h1 : 1 ≤ n) {gf : Nat} {lb : Array Value}
    (hg : a.eval g = .func (.func gf) #[] lb) (eg : ∀ args w, (callFunc gf args).run P w = .ok (.enter gf args) w) {L : List α} {w0 : World} {Keep : World → Prop} (hseq : HandsG enc (n - 1) P gf lb L Keep w0) (hb0 : Below w0.heap.size w0 w)
    (I : List α → World → Prop) (Ix : List α → World → Prop) (hI : OwnFrom w.heap.size I) (hIx : OwnFrom w.heap.size Ix) (hKeep : ∀ pre W, I pre W → Keep W) (h0 : I [] w) (a₁ : α → Nat → Act)
    (hassign : ∀ (l : Nat) (x : α) (W : World) (K : Act → World → Prop), K (a₁ x W.heap.size) (W.alloc (box x)) →
      assign.wpIn (Fence.wide.inRound l) (n - 1 - 1) P (Exit.then K (fun _ _ _ => False)) { tmps := (#[t1].zip #[enc x]).foldl (fun t (p, v) => t.setIfInBounds p v) a.tmps, defers := [] } W)
    (hbody : ∀ (l : Nat) (pre : List α) (x : α) (W : World) (r r' : Loop), I pre W → pre ++ [x] <+: L → w.heap.size ≤ l → W.heap[l]? = some (.loop r) → body.wpIn (Fence.wide.inRound l) (n - 1 - 1) P (fun e _ W' => match e with
      | .normal => KeepsFrom w.heap.size ((W.alloc (box x)).putObj l (.loop r')) W' ∧ KeepsWalks ((W.alloc (box x)).putObj l (.loop r')) W' ∧ I (pre ++ [x]) W'
      | .ret => KeepsFrom w.heap.size ((W.alloc (box x)).putObj l (.loop r')) W' ∧ Ix (pre ++ [x]) W'
      | _ => False) (a₁ x W.heap.size) ((W.alloc (box x)).putObj l (.loop r')))
    (hdone : ∀ (D : Nat) (W : World), w.heap.size ≤ D → I L W → W.heap[D]? = some (.deferred (some [])) → Q .normal { a with defers := { target := .collected D, args := #[] } :: a.defers } W)
    (hstop : ∀ (D : Nat) (pre : List α) (W : World), w.heap.size ≤ D → pre <+: L → Ix pre W → W.heap[D]? = some (.deferred (some [])) → Code.ret.wpIn Fence.wide n P Q { a with defers := { target := .collected D, args := #[] } :: a.defers } W) :
    (Code.rangeFunc g #[t1] assign body).wpIn Fence.wide n P Q a w := by
  refine wpIn_rangeFunc ?_
  intro fn hfn
  obtain ⟨rec, hrec⟩ : ∃ rec : LoopState → Option Code → Loop, rec = fun st pe => { state := st, pending := pe, fn, tmps := a.tmps, params := #[t1], assign, body, defers := w.heap.size } := ⟨_, rfl⟩
  have hq : ∀ st pe, rec st pe = { state := st, pending := pe, fn, tmps := a.tmps, params := #[t1], assign, body, defers := w.heap.size } := fun st pe => by rw [hrec]
  clear hrec
  -- the world in which the iterator begins: two new blocks
  obtain ⟨W1, hW1⟩ : ∃ W1, (w.alloc (.deferred (some []))).alloc (.loop (rec .ready none)) = W1 := ⟨_, rfl⟩
  have hz : w.heap.size + 1 + 1 ≤ W1.heap.size := by rw [← hW1]; simp
  have start : Held rec w.heap.size .ready none (I [] W1) W1 := by
    refine ⟨?_, ?_, ?_⟩
    · rw [← hW1]; exact hI.alloc _ (hI.alloc _ h0)
    · have := World.alloc_heap_new (w.alloc (.deferred (some []))) (.loop (rec .ready none))
      rw [World.size_alloc] at this
      rw [← hW1]; exact this
    · rw [← hW1]; exact (Below.heap_alloc _ _ _ (by simp)).trans (World.alloc_heap_new w _)
  have hb1 : Below w0.heap.size w0 W1 := by
    rw [← hW1]; exact hb0.trans ((((Below.refl _ w).alloc (Nat.le_refl _) _).alloc (by simp) _).mono hb0.size)
  refine ⟨w.heap.size + 1, [{ target := .collected w.heap.size, args := #[] }], W1, { target := .fn (.func gf) lb, args := #[.func (.yield (w.heap.size + 1)) #[] #[]] }, W1, gf, #[.func (.yield (w.heap.size + 1)) #[] #[]] ++ lb, W1,
    by rw [← hW1, hq]; exact run_enterLoop_outer _ _ _ _ _, by simp only [resolve, hg]; simp [go_sem], fun _ _ => trivial, by simp [invoke, go_sem, eg], fun _ => h1, ?_⟩
  clear hW1 h0 hb0
  -- what the caller keeps abides the iterator's own steps
  have far : ∀ {A : World} {row : Option Nat}, (∀ r, row = some r → W1.heap.size ≤ r ∧ ∃ o : Obj, A.heap[r]? = some o ∧ o.isWalk = true) → ∀ r, row = some r → w.heap.size ≤ r ∧ ∃ o : Obj, A.heap[r]? = some o ∧ o.isCells = false := by
    intro A row hr r e
    obtain ⟨h2, o, h3, h4⟩ := hr r e
    exact ⟨by omega, o, h3, Obj.not_cells_of_walk h4⟩
  have abide : ∀ (K : List α → World → Prop), OwnFrom w.heap.size K → ∀ st pe, AbidesFrom W1.heap.size fun pre W => Held rec w.heap.size st pe (K pre W) W := by
    intro K hK st pe p A B row hs hgr hr
    have keep := fun {k : Nat} {o : Obj} (h : A.heap[k]? = some o) (ho : o.isWalk = false) => (grownBy_keeps hgr (fun r e => (hr r e).2) h ho).trans h
    exact ⟨hK p A B row hs.own hgr (far hr), keep hs.loop rfl, keep hs.defs rfl⟩
  -- a turn of the loop's own record
  have turn : ∀ (K : List α → World → Prop), OwnFrom w.heap.size K → ∀ pre W st pe st' pe', Held rec w.heap.size st pe (K pre W) W → Held rec w.heap.size st' pe' (K pre (W.putObj (w.heap.size + 1) (.loop (rec st' pe')))) (W.putObj (w.heap.size + 1) (.loop (rec st' pe'))) := by
    intro K hK pre W st pe st' pe' h
    exact ⟨hK.putObj _ h.own (by omega) h.loop rfl, World.putObj_heap_same (Array.getElem?_eq_some_iff.1 h.loop).1, (World.putObj_heap_other (by omega)).trans h.defs⟩
  refine (hseq (w.heap.size + 1) (fun pre W => Held rec w.heap.size .ready none (I pre W) W) (fun pre W => Held rec w.heap.size .done (some .ret) (Ix pre W) W) W1 hb1 (abide I hI _ _) (fun pre W1 h => hKeep pre W1 h.own) ?_ start).mono ?_
  · intro pre x W h hpre
    have hy := run_yield (P := P) (args := #[enc x]) h.loop (by rw [hq]; rfl)
    rw [hq] at hy
    have hlt : w.heap.size + 1 < W.heap.size := (Array.getElem?_eq_some_iff.1 h.loop).1
    have h' : Held rec w.heap.size .ready none (I pre (W.alloc (box x))) (W.alloc (box x)) := ⟨hI.alloc _ h.own, (Below.heap_alloc _ _ _ hlt).trans h.loop, (Below.heap_alloc _ _ _ (by omega)).trans h.defs⟩
    have h2 := turn I hI pre (W.alloc (box x)) .ready none .busy none h'
    have hbr := run_beginRound (P := P) h'.loop (by rw [hq])
    refine ⟨fn, _, assign, body, hy, roundIn_of_wpIn hfn (hassign _ x W _ ⟨_, hbr, ?_⟩)⟩
    have e2 : ({ rec .ready none with state := .busy } : Loop) = rec .busy none := by rw [hq, hq]
    rw [e2]
    have k2 : KeepsWalks W ((W.alloc (box x)).putObj (w.heap.size + 1) (.loop (rec .busy none))) := ((KeepsOthers.alloc W (box x)).walks).trans (KeepsWalks.putObj _ h'.loop rfl)
    refine wpIn_mono (hbody _ pre x W _ _ h.own hpre (by omega) h.loop) ?_
    intro e a3 W3 hp
    cases e with
    | normal =>
      obtain ⟨hk3, hw3, hi3⟩ := hp
      have h3 : Held rec w.heap.size .busy none (I (pre ++ [x]) W3) W3 := ⟨hi3, hk3.same _ _ (by omega) h2.loop rfl, hk3.same _ _ (Nat.le_refl _) h2.defs rfl⟩
      have hr := run_endRound (P := P) none h3.loop
      have e3 : ({ rec .busy none with state := if (none : Option Code).isNone then .ready else .done, pending := none } : Loop) = rec .ready none := by rw [hq, hq]; rfl
      rw [e3] at hr
      exact ⟨_, _, hr, .inl ⟨rfl, turn I hI _ _ _ _ _ _ h3, (k2.trans hw3).trans (KeepsWalks.putObj _ h3.loop rfl)⟩⟩
    | ret =>
      obtain ⟨hk3, hi3⟩ := hp
      have h3 : Held rec w.heap.size .busy none (Ix (pre ++ [x]) W3) W3 := ⟨hi3, hk3.same _ _ (by omega) h2.loop rfl, hk3.same _ _ (Nat.le_refl _) h2.defs rfl⟩
      have hr := run_endRound (P := P) (some .ret) h3.loop
      have e3 : ({ rec .busy none with state := if (some Code.ret : Option Code).isNone then .ready else .done, pending := some .ret } : Loop) = rec .done (some .ret) := by rw [hq, hq]; rfl
      rw [e3] at hr
      exact ⟨_, _, hr, .inr ⟨rfl, turn Ix hIx _ _ _ _ _ _ h3⟩⟩
    | exit id => exact hp.elim
    | goto t => exact hp.elim
    | panic ch => exact hp.elim
    | outgrown => exact hp.elim
  · rintro e W2 ⟨⟨v, rfl⟩, h | ⟨pre, hpre, h⟩⟩
    · have hr := run_endLoop (P := P) h.loop (by rw [hq]; simp)
      have e3 : ({ rec .ready none with state := .exhausted } : Loop) = rec .exhausted none := by rw [hq, hq]
      rw [e3] at hr
      have h3 := turn I hI _ _ _ _ .exhausted none h
      exact ⟨none, _, by rw [hr, hq], hdone _ _ (Nat.le_refl _) h3.own h3.defs⟩
    · have hr := run_endLoop (P := P) h.loop (by rw [hq]; simp)
      have h3 := turn Ix hIx _ _ _ _ .exhausted (some .ret) h
      have e3 : ({ rec .done (some .ret) with state := .exhausted } : Loop) = rec .exhausted (some .ret) := by rw [hq, hq]
      rw [e3] at hr
      exact ⟨some .ret, _, by rw [hr, hq], hstop _ pre _ (Nat.le_refl _) hpre h3.own h3.defs⟩

/-- the marks among the deferred calls that loops over iterators have left -/
def marks (rs : List Nat) : List Deferred := rs.map fun r => { target := .collected r, args := #[] }
/-- their blocks, taken -/
def freed : List Nat → World → World
  | [], w => w
  | r :: rs, w => freed rs (w.putObj r (.deferred none))
theorem freed_heap : ∀ (rs : List Nat) (w : World) (k : Nat), k ∉ rs → (freed rs w).heap[k]? = w.heap[k]?
  | [], _, _, _ => rfl
  | r :: rs, w, k, h => by
    rw [freed, freed_heap rs _ k (fun hm => h (List.mem_cons_of_mem _ hm))]
    exact World.putObj_heap_other (fun e => h (by rw [e]; exact List.mem_cons_self))
theorem freed_but (rs : List Nat) : ∀ (w : World), But (fun k => k ∈ rs) w (freed rs w) := by
  induction rs with
  | nil => exact fun w => But.refl _ _
  | cons r rs ih =>
    intro w
    have h := ih (w.putObj r (.deferred none))
    have hz : (w.putObj r (.deferred none)).heap.size = w.heap.size := by simp [World.putObj]
    refine ⟨h.os, h.tape, h.output, by rw [← hz]; exact h.size, fun k hk ht => ?_⟩
    exact freed_heap (r :: rs) w k ht

theorem leaves_marks {F : Fence} {fn : Func} {tmps : Array Value} {R : Ending → World → Prop} : ∀ (rs : List Nat) (w : World), rs.Nodup → (∀ r ∈ rs, w.heap[r]? = some (.deferred (some []))) →
    LeavesIn F n P fn tmps R [] .returning (freed rs w) → LeavesInM F n P fn tmps R (marks rs) .returning w
  | [], _, _, _, h => h
  | r :: rs, w, hn, hw, h => by
    refine ⟨by simp, .inl ⟨r, _, rfl, run_takeDeferred (hw r List.mem_cons_self), ?_⟩⟩
    have hn2 := List.nodup_cons.1 hn
    exact leaves_marks rs _ hn2.2 (fun q hq => (World.putObj_heap_other (fun e => hn2.1 (by rw [← e]; exact hq))).trans (hw q (List.mem_cons_of_mem _ hq))) h
end Go.Proofs.YtemacokojdeimaaGreatDoor

/- A region that draws its order and whose last operations come in one forced order: its head as a region of its own, and then the tail as a list. (Any step of the head may make or write memory.) -/
namespace Go.Proofs.YtemacokojdeimaaGreatDoor
open Go.RowKit

section
variable {P : Program} {md : Region.Mode} {Q : Exit → Act → World → Prop}

theorem any_more {ops : Array Oper} : ∀ (f : Nat) (listed : Array Bool) (a : Act) (w : World), wpAny P md ops Q f listed a w → wpAny P md ops Q (f + 1) listed a w
  | 0, listed, a, w, h => ⟨fun _ => h.2, fun i hi => by rw [h.1] at hi; cases hi⟩
  | f + 1, listed, a, w, h => ⟨h.1, fun i hi => wpOp_mono (fun a' w' h' => any_more f _ a' w' h') (h.2 i hi)⟩
theorem any_moreN {ops : Array Oper} (g : Nat) {listed : Array Bool} {a : Act} {w : World} (h : wpAny P md ops Q g listed a w) : ∀ f, wpAny P md ops Q (f + g) listed a w
  | 0 => by rw [Nat.zero_add]; exact h
  | f + 1 => by rw [show f + 1 + g = (f + g) + 1 by omega]; exact any_more _ _ _ _ (any_moreN g h f)

/-- what follows the head -/
def thenTail (P : Program) (ops : Array Oper) (Q : Exit → Act → World → Prop) (l : List Oper) : Exit → Act → World → Prop
  | .normal, a, w => wpList P ops Q l a w
  | e, a, w => Q e a w
theorem lets_tail {ops : Array Oper} {l : List Oper} (h : LetsOut (thenTail P ops Q l)) : LetsOut Q := by
  obtain ⟨a, w, h⟩ := h
  exact ⟨a, w, h⟩
theorem wp_tail {ops : Array Oper} {l : List Oper} {o : Oper} {K K' : Act → World → Prop} {a : Act} {w : World} (hK : ∀ a w, K a w → K' a w) (h : o.wp P a w K (thenTail P ops Q l)) : o.wp P a w K' Q := by
  unfold Oper.wp at *
  generalize (execOp a.eval o).run P w = r at *
  cases r with
  | ok x w' =>
    cases x with
    | value v => exact hK _ _ h
    | skip => exact hK _ _ h
    | defer d => exact hK _ _ h
    | enter f args =>
      refine Calls.mono (h : Calls P f args w' _) ?_
      intro e w'' hh
      cases e with
      | returned v => exact hK _ _ hh
      | panicked c => exact hh
      | outgrown => exact lets_tail hh
    | row r args => exact Rows.mono (h : Rows P r args w' _) fun v w'' hh => hK _ _ hh
    | _ => exact h.elim
  | halt x w' =>
    cases x with
    | panic v => exact h
    | _ => exact h.elim

/-- no operation of the head waits for a later one, none is guarded -/
def headB (md : Region.Mode) (l : List Oper) : Bool := (List.range l.length).all fun i => match l[i]? with
  | some o => o.guard.isNone && o.after.all fun e => !Region.binds md e || decide (e.on < i)
  | none => true
theorem head_spec {l : List Oper} (h : headB md l = true) {i : Nat} {o : Oper} (hi : l[i]? = some o) : o.guard = none ∧ ∀ e ∈ o.after, Region.binds md e = true → e.on < i := by
  have hl : i < l.length := (List.getElem?_eq_some_iff.1 hi).1
  have h1 := List.all_eq_true.1 h i (List.mem_range.2 hl)
  rw [hi] at h1
  simp only [Bool.and_eq_true, Option.isNone_iff_eq_none] at h1
  refine ⟨h1.1, fun e he hb => ?_⟩
  have h2 := Array.all_eq_true'.1 h1.2 e he
  simpa [hb] using h2

/-- the marks of what is done, within the head -/
def doneHead (n : Nat) (l2 : Array Bool) (m : Nat) : Array Bool := (Array.range m).map fun i => decide (i < n) && l2.getD i true

theorem head_all {H : List Oper} {l2 : Array Bool} (hb : headB md H = true) (hsz : l2.size = H.length) (hr : Region.ready md H.toArray l2 = []) : ∀ i, i < H.length → l2.getD i true = true := by
  intro i
  induction i using Nat.strongRecOn with
  | _ i ih =>
    intro hi
    cases e : l2.getD i true with
    | true => rfl
    | false =>
      have ho : H[i]? = some H[i] := List.getElem?_eq_getElem hi
      have hm : i ∈ Region.ready md H.toArray l2 := mem_ready.2 ⟨e, H[i], by rw [List.getElem?_toArray]; exact ho, fun ed hed hbd => by
        have h1 := (head_spec hb ho).2 ed hed hbd
        have h2 := ih ed.on h1 (by omega)
        have h3 : ed.on < l2.size := by omega
        simp [h3] at h2 ⊢; exact h2⟩
      rw [hr] at hm
      cases hm

theorem any_head {ops : List Oper} {n : Nat} (hs : Region.sinkB md ops.toArray n = true) (hc : Region.chainB md ops.toArray n = true) (hn : n < ops.length) (hb : headB md (ops.take n) = true)
    (hseq : ∀ listed : Array Bool, listed.size = ops.length → (∀ i, i < n → listed.getD i true = true) → (∀ t, n ≤ t → t < ops.length → listed.getD t true = false) → Region.seqB md ops.toArray (ops.drop n).length n listed = true) :
    ∀ (f : Nat) (listed l2 : Array Bool) (a : Act) (w : World), HeadInv md ops.toArray n listed → l2.size = n → (∀ i, i < n → l2.getD i true = listed.getD i true) →
      wpAny P md (ops.take n).toArray (thenTail P ops.toArray Q (ops.drop n)) f l2 a w → wpAny P md ops.toArray Q (f + (ops.drop n).length) listed a w := by
  have hlen : (ops.take n).length = n := by rw [List.length_take]; omega
  have fin : ∀ (listed l2 : Array Bool) (a : Act) (w : World), HeadInv md ops.toArray n listed → l2.size = n → (∀ i, i < n → l2.getD i true = listed.getD i true) → Region.ready md (ops.take n).toArray l2 = [] → wpList P ops.toArray Q (ops.drop n) a w → wpAny P md ops.toArray Q (ops.drop n).length listed a w := by
    intro listed l2 a w inv h1 h2 hr h
    have hall := head_all hb (by rw [hlen]; exact h1) hr
    rw [hlen] at hall
    refine wpAny_of_seq (ops.drop n) n listed a w (fun j => by rw [List.getElem?_drop, List.getElem?_toArray]) (hseq listed (by simpa using inv.size) (fun i hi => by rw [← h2 i hi]; exact hall i hi) (fun t ht ht2 => inv.tail t ht (by simpa using ht2))) h
  intro f
  induction f with
  | zero =>
    intro listed l2 a w inv h1 h2 h
    rw [Nat.zero_add]
    exact fin listed l2 a w inv h1 h2 h.1 h.2
  | succ f ih =>
    intro listed l2 a w inv h1 h2 h
    by_cases hr : Region.ready md (ops.take n).toArray l2 = []
    · exact any_moreN _ (fin listed l2 a w inv h1 h2 hr (h.1 hr)) (f + 1)
    · have mem : ∀ i, i < n → (i ∈ Region.ready md ops.toArray listed ↔ i ∈ Region.ready md (ops.take n).toArray l2) := by
        intro i hi
        have e1 : (ops.take n).toArray[i]? = ops.toArray[i]? := by rw [List.getElem?_toArray, List.getElem?_toArray, List.getElem?_take_of_lt hi]
        have key : ∀ o, ops.toArray[i]? = some o → ∀ e ∈ o.after, Region.binds md e = true → (listed.getD e.on false = l2.getD e.on false) := by
          intro o ho e he hbd
          have hlt := (head_spec hb (i := i) (o := o) (by rw [List.getElem?_take_of_lt hi]; simpa using ho)).2 e he hbd
          have h3 := h2 e.on (by omega)
          have s1 : e.on < l2.size := by omega
          have s2 : e.on < listed.size := by have := inv.size; simp at this; omega
          simp [s1, s2] at h3 ⊢
          exact h3.symm
        rw [mem_ready, mem_ready, e1, h2 i hi]
        constructor
        · rintro ⟨g1, o, ho, g2⟩; exact ⟨g1, o, ho, fun e he hbd => by rw [← key o ho e he hbd]; exact g2 e he hbd⟩
        · rintro ⟨g1, o, ho, g2⟩; exact ⟨g1, o, ho, fun e he hbd => by rw [key o ho e he hbd]; exact g2 e he hbd⟩
      obtain ⟨i0, hi0⟩ := List.exists_mem_of_ne_nil _ hr
      have hi0n : i0 < n := by
        obtain ⟨_, o, ho, _⟩ := mem_ready.1 hi0
        have h5 := (Array.getElem?_eq_some_iff.1 ho).1
        rw [List.size_toArray, hlen] at h5
        exact h5
      have hun : listed.getD i0 true = false := by rw [← h2 i0 hi0n]; exact (mem_ready.1 hi0).1
      rw [show f + 1 + (ops.drop n).length = (f + (ops.drop n).length) + 1 by omega]
      refine ⟨fun h0 => absurd ((mem i0 hi0n).2 hi0) (by rw [h0]; simp), fun i hi => ?_⟩
      have hin : i < n := by
        rcases Nat.lt_or_ge i n with h3 | h3
        · exact h3
        · exact absurd hi (tail_waits hs hc (by simpa using hn) inv _ i0 rfl hi0n hun i h3)
      have hi2 := (mem i hin).1 hi
      have hstep := h.2 i hi2
      have e1 : (ops.take n).toArray[i]? = ops.toArray[i]? := by rw [List.getElem?_toArray, List.getElem?_toArray, List.getElem?_take_of_lt hin]
      obtain ⟨_, o, ho, _⟩ := mem_ready.1 hi
      have hg := (head_spec hb (i := i) (o := o) (by rw [List.getElem?_take_of_lt hin]; simpa using ho)).1
      unfold wpOp at hstep ⊢
      rw [e1] at hstep
      rw [ho] at hstep ⊢
      have hw : ∀ y, Region.wanted o y = true := fun y => by unfold Region.wanted; rw [hg]
      simp only [hw, if_true] at hstep ⊢
      have next : ∀ a' w', wpAny P md (ops.take n).toArray (thenTail P ops.toArray Q (ops.drop n)) f (l2.setIfInBounds i true) a' w' → wpAny P md ops.toArray Q (f + (ops.drop n).length) (listed.setIfInBounds i true) a' w' := fun a' w' h' =>
        ih _ _ a' w' (inv.set hi hin) (by simp [h1]) (fun j hj => by
          by_cases e : i = j
          · subst e
            have s1 : i < l2.size := by omega
            have s2 : i < listed.size := by have := inv.size; simp at this; omega
            simp [s1, s2]
          · rw [getD_set_ne true e, getD_set_ne true e]; exact h2 j hj) h'
      rcases hstep with h' | ⟨h', hl⟩
      · exact .inl (wp_tail next h')
      · exact .inr ⟨h', lets_tail hl⟩

/-- the checks on a region whose head is n operations -/
def tailOk (l : List Oper) (n : Nat) : Bool :=
  Region.sinkB .any l.toArray n && Region.chainB .any l.toArray n && decide (n < l.length) && headB .any (l.take n) && Region.seqB .any l.toArray (l.drop n).length n (List.replicate n true ++ List.replicate (l.length - n) false).toArray

theorem listed_eq {listed : Array Bool} {n m : Nat} (hn : n ≤ m) (h1 : listed.size = m) (h2 : ∀ i, i < n → listed.getD i true = true) (h3 : ∀ t, n ≤ t → t < m → listed.getD t true = false) : listed = (List.replicate n true ++ List.replicate (m - n) false).toArray := by
  apply Array.ext_getElem?
  intro i
  have e0 : (List.replicate n true ++ List.replicate (m - n) false).toArray[i]? = (List.replicate n true ++ List.replicate (m - n) false)[i]? := by simp only [List.getElem?_toArray]
  refine Eq.trans ?_ e0.symm
  by_cases e : i < n
  · have g1 : i < listed.size := by omega
    have h4 := h2 i e
    simp [g1] at h4
    rw [Array.getElem?_eq_getElem g1, h4, List.getElem?_append_left (by simpa using e), List.getElem?_replicate, if_pos e]
  · by_cases e2 : i < m
    · have g1 : i < listed.size := by omega
      have h4 := h3 i (by omega) e2
      simp [g1] at h4
      rw [Array.getElem?_eq_getElem g1, h4, List.getElem?_append_right (by simpa using Nat.le_of_not_lt e), List.getElem?_replicate, if_pos (by simp; omega)]
    · rw [Array.getElem?_eq_none (by omega), List.getElem?_eq_none (by simp; omega)]

theorem region_head_held {id : Nat} {l : List Oper} {a : Act} {w : World} (n : Nat) (S : World → Prop) (hm : P.follows .mixedOrders = true) (hB : tailOk l n = true) (hS : S w.drew)
    (h : S w.drew → wpAnyH P .any (l.take n).toArray (thenTail P l.toArray Q (l.drop n)) S n (Array.replicate n false) a w.drew) : (Code.region id l.toArray true).wp P Q a w := by
  simp only [tailOk, Bool.and_eq_true, decide_eq_true_eq] at hB
  obtain ⟨⟨⟨⟨h1, h2⟩, h3⟩, h4⟩, h5⟩ := hB
  refine wp_region_any hm ?_
  have h6 := any_head (Q := Q) h1 h2 h3 h4 (fun listed g1 g2 g3 => by rw [listed_eq (Nat.le_of_lt h3) g1 g2 g3]; exact h5) n (Array.replicate l.length false) (Array.replicate n false) a w.drew
    ⟨by simp, (fun j oj hj hl => by rw [getD_replicate_false] at hl; cases hl), fun t ht ht2 => by simp at ht2; simp [ht2]⟩ (by simp) (fun i hi => by simp [hi, show i < l.length by omega]) (wpAny_of_held _ _ _ _ (h hS))
  rw [List.length_drop] at h6
  rw [show l.toArray.size = n + (l.length - n) by simp; omega, show Array.replicate (n + (l.length - n)) false = Array.replicate l.length false by congr 1; omega]
  exact h6
end
end Go.Proofs.YtemacokojdeimaaGreatDoor

/- Contracts of package chain: newGraph. -/
namespace Go.Proofs.YtemacokojdeimaaGreatDoor
open Go.RowKit

theorem infoSl : (Tryz.prog.info? 41).map (fun i => (i.zero, i.size, i.bytes)) = some (some (.slice none 0 0), 1, 24) := by kernel_rfl
theorem infoBool : (Tryz.prog.info? 4).map (fun i => (i.zero, i.size, i.bytes)) = some (some (.bool false), 1, 1) := by kernel_rfl

/-- what a cell holds, whatever it is -/
def cv (W : World) (p : Addr) : Value := (W.cell? p).getD undef
theorem cv_of {W : World} {p : Addr} {v : Value} (h : W.cell? p = some v) : W.cell? p = some (cv W p) := by unfold cv; rw [h]; rfl
theorem cv_eq {W : World} {p : Addr} {v : Value} (h : W.cell? p = some v) : cv W p = v := by unfold cv; rw [h]; rfl

/-- what a graph's block holds -/
def gF (n : Nat) (a : Option Addr) (m cap ib db : Nat) : Nat → Value := fun i => if i = 0 then .int .i64 n else if i = 1 then .slice a m cap else if i = 2 then .slice (some ⟨ib, 0, none⟩) n n else .slice (some ⟨db, 0, none⟩) m m

/-- the lists of indices: an owned row for each node -/
structure IntoAt (w : World) (B ib n : Nat) (V : Nat → Value) (I : Nat → List Nat) : Prop where
  row : w.rowIs ib 41 n V
  own : ∀ v, v < n → w.ownsRow B 3 1 (V v) (I v).length ((I v).map fun i : Nat => Value.int .i64 (i : Int))
  apart : ∀ v v', v < n → v' < n → v ≠ v' → ∀ g, (V v).ownBlock = some g → (V v').ownBlock ≠ some g

theorem gRow {X : World} {n : Nat} {a : Option Addr} {m cap ib db : Nat} : (X.alloc (Obj.cells #[.int .i64 n, .slice a m cap, .slice (some ⟨ib, 0, none⟩) n n, .slice (some ⟨db, 0, none⟩) m m] 78)).rowIs X.heap.size 78 4 (gF n a m cap ib db) :=
  World.rowIs_alloc X _ _ _ (fun i hi => by
    match i, hi with
    | 0, _ => rfl
    | 1, _ => rfl
    | 2, _ => rfl
    | 3, _ => rfl)

/-- what newGraph lays first -/
structure Laid (w X : World) (gb ib db n : Nat) (a : Option Addr) (m cap : Nat) : Prop where
  g : X.rowIs gb 78 4 (gF n a m cap ib db)
  i : X.rowIs ib 41 n (fun _ => .slice none 0 0)
  d : X.rowIs db 4 m (fun _ => .bool false)
  b : Below w.heap.size w X
  gi : gb ≠ ib
  gd : gb ≠ db
  id : ib ≠ db
  g0 : w.heap.size ≤ gb
  i0 : w.heap.size ≤ ib
  d0 : w.heap.size ≤ db

theorem laid_1 {w X : World} {n : Nat} {a : Option Addr} {m cap : Nat} (h : Below w.heap.size w X) : Laid w (((X.alloc (Obj.cells (madeCells #[.slice none 0 0] n) 41)).alloc (Obj.cells (madeCells #[.bool false] m) 4)).alloc (Obj.cells #[.int .i64 n, .slice a m cap, .slice (some ⟨X.heap.size, 0, none⟩) n n, .slice (some ⟨X.heap.size + 1, 0, none⟩) m m] 78)).drew (X.heap.size + 1 + 1) X.heap.size (X.heap.size + 1) n a m cap := by
  have hz := h.size
  refine ⟨?_, ?_, ?_, (((h.alloc h.size _).alloc (by simp; omega) _).alloc (by simp; omega) _).drew, by omega, by omega, by omega, by omega, by omega, by omega⟩
  · have e : ((X.alloc (Obj.cells (madeCells #[.slice none 0 0] n) 41)).alloc (Obj.cells (madeCells #[.bool false] m) 4)).heap.size = X.heap.size + 1 + 1 := by simp
    rw [← e]
    exact gRow.drew
  · exact (((World.rowIs_made X _ n _).alloc _).alloc _).drew
  · have e : (X.alloc (Obj.cells (madeCells #[.slice none 0 0] n) 41)).heap.size = X.heap.size + 1 := by simp
    have h1 := World.rowIs_made (X.alloc (Obj.cells (madeCells #[.slice none 0 0] n) 41)) (.bool false) m 4
    rw [e] at h1
    exact (h1.alloc _).drew
theorem laid_2 {w X : World} {n : Nat} {a : Option Addr} {m cap : Nat} (h : Below w.heap.size w X) : Laid w (((X.alloc (Obj.cells (madeCells #[.bool false] m) 4)).alloc (Obj.cells (madeCells #[.slice none 0 0] n) 41)).alloc (Obj.cells #[.int .i64 n, .slice a m cap, .slice (some ⟨X.heap.size + 1, 0, none⟩) n n, .slice (some ⟨X.heap.size, 0, none⟩) m m] 78)).drew (X.heap.size + 1 + 1) (X.heap.size + 1) X.heap.size n a m cap := by
  have hz := h.size
  refine ⟨?_, ?_, ?_, (((h.alloc h.size _).alloc (by simp; omega) _).alloc (by simp; omega) _).drew, by omega, by omega, by omega, by omega, by omega, by omega⟩
  · have e : ((X.alloc (Obj.cells (madeCells #[.bool false] m) 4)).alloc (Obj.cells (madeCells #[.slice none 0 0] n) 41)).heap.size = X.heap.size + 1 + 1 := by simp
    rw [← e]
    exact gRow.drew
  · have e : (X.alloc (Obj.cells (madeCells #[.bool false] m) 4)).heap.size = X.heap.size + 1 := by simp
    have h1 := World.rowIs_made (X.alloc (Obj.cells (madeCells #[.bool false] m) 4)) (.slice none 0 0) n 41
    rw [e] at h1
    exact (h1.alloc _).drew
  · exact (((World.rowIs_made X _ m _).alloc _).alloc _).drew

/-- a row of one type is none of another -/
theorem row_apart {w : World} {b c : Nat} {t u : TypeId} {n k : Nat} {f g : Nat → Value} (h1 : w.rowIs b t n f) (h2 : w.rowIs c u k g) (ht : t ≠ u) : b ≠ c := by
  intro e
  subst e
  obtain ⟨_, h1, _⟩ := h1
  obtain ⟨_, h2, _⟩ := h2
  rw [h1] at h2
  simp only [Option.some.injEq, Obj.cells.injEq] at h2
  exact ht h2.2.1

/-- what stands behind an append to the row of the node t -/
theorem into_step {w w1 : World} {B ib n t k g cp : Nat} {V : Nat → Value} {I J : Nat → List Nat} (h : IntoAt w B ib n V I) (ht : t < n) (hgr : w.grownBy w1 (V t).ownBlock) (hown : w1.ownsRow B 3 1 (.slice (some ⟨g, 0, none⟩) ((I t).length + 1) cp) ((I t).length + 1) (((I t).map fun i : Nat => Value.int .i64 (i : Int)) ++ [.int .i64 (k : Int)]))
    (hat : (V t).ownBlock = some g ∨ w.heap.size ≤ g) (hJ : J t = I t ++ [k]) (hJ2 : ∀ v, v ≠ t → J v = I v) :
    IntoAt (w1.setCell ⟨ib, t, none⟩ (.slice (some ⟨g, 0, none⟩) ((I t).length + 1) cp)) B ib n (fun v => if v = t then .slice (some ⟨g, 0, none⟩) ((I t).length + 1) cp else V v) J := by
  have hrow : w1.rowIs ib 41 n V := by
    refine h.row.of_block (hgr.block ib h.row.lt ?_)
    intro e
    have h2 := h.own t ht
    obtain ⟨_, h3⟩ := h2
    rcases h3 with ⟨h3, _⟩ | ⟨g', c', cur, h3, _, h4, _⟩
    · rw [h3] at e; simp [Value.ownBlock] at e
    · rw [h3] at e
      simp [Value.ownBlock] at e
      obtain ⟨_, h5, _⟩ := h.row
      rw [e, h4] at h5
      simp at h5
  have hold : ∀ v, v < n → v ≠ t → w1.ownsRow B 3 1 (V v) (I v).length ((I v).map fun i : Nat => Value.int .i64 (i : Int)) := fun v hv hvt => by
    have h2 := h.own v hv
    obtain ⟨hl, h3⟩ := h2
    refine ⟨hl, ?_⟩
    rcases h3 with h3 | ⟨g', c', cur, h3, hb, h4, hrest⟩
    · exact .inl h3
    · refine .inr ⟨g', c', cur, h3, hb, ?_, hrest⟩
      rw [hgr.block g' (Array.getElem?_eq_some_iff.1 h4).1 (fun e => h.apart t v ht hv (Ne.symm hvt) g' e.symm (by rw [h3]; rfl))]
      exact h4
  have far : ∀ {x : Value} {m : Nat} {xs : List Value}, w1.ownsRow B 3 1 x m xs → (w1.setCell ⟨ib, t, none⟩ (.slice (some ⟨g, 0, none⟩) ((I t).length + 1) cp)).ownsRow B 3 1 x m xs := fun ho => by
    obtain ⟨hl, h3⟩ := ho
    refine ⟨hl, ?_⟩
    rcases h3 with h3 | ⟨g', c', cur, h3, hb, h4, hrest⟩
    · exact .inl h3
    · refine .inr ⟨g', c', cur, h3, hb, ?_, hrest⟩
      rw [Below.heap_setCell _ _ _ _ ?_]
      · exact h4
      · intro e
        obtain ⟨_, h5, _⟩ := hrow
        simp only at e
        rw [← e, h4] at h5
        simp at h5
  refine ⟨hrow.set t _, fun v hv => ?_, fun v v' hv hv' hne g' e => ?_⟩
  · by_cases hvt : v = t
    · subst hvt
      simp only [if_true]
      rw [hJ, List.length_append, List.map_append]
      exact far hown
    · simp only [if_neg hvt]
      rw [hJ2 v hvt]
      exact far (hold v hv hvt)
  · by_cases hvt : v = t
    · subst hvt
      simp only [if_true, Value.ownBlock, Option.some.injEq] at e
      subst e
      simp only [if_neg (Ne.symm hne)]
      rcases hat with hat | hat
      · exact h.apart v v' hv hv' hne g hat
      · intro e2
        have h2 := h.own v' hv'
        obtain ⟨_, h3⟩ := h2
        rcases h3 with ⟨h3, _⟩ | ⟨g', c', cur, h3, _, h4, _⟩
        · rw [h3] at e2; simp [Value.ownBlock] at e2
        · rw [h3] at e2
          simp [Value.ownBlock] at e2
          have := (Array.getElem?_eq_some_iff.1 h4).1
          omega
    · simp only [if_neg hvt] at e
      by_cases hvt2 : v' = t
      · subst hvt2
        simp only [if_true, Value.ownBlock]
        intro e2
        simp only [Option.some.injEq] at e2
        subst e2
        rcases hat with hat | hat
        · exact h.apart v v' hv hv' hne g e hat
        · have h2 := h.own v hv
          obtain ⟨_, h3⟩ := h2
          rcases h3 with ⟨h3, _⟩ | ⟨g', c', cur, h3, _, h4, _⟩
          · rw [h3] at e; simp [Value.ownBlock] at e
          · rw [h3] at e
            simp [Value.ownBlock] at e
            have := (Array.getElem?_eq_some_iff.1 h4).1
            omega
      · simp only [if_neg hvt2]
        exact h.apart v v' hv hv' hne g' e
end Go.Proofs.YtemacokojdeimaaGreatDoor

/- The contract of package chain's newGraph. -/
namespace Go.Proofs.YtemacokojdeimaaGreatDoor
open Go.RowKit

theorem IntoAt.of_block {w w1 : World} {B ib n : Nat} {V : Nat → Value} {I : Nat → List Nat} (h : IntoAt w B ib n V I) (hb : ∀ k, k < w.heap.size → w1.heap[k]? = w.heap[k]?) : IntoAt w1 B ib n V I := by
  refine ⟨h.row.of_block (hb ib h.row.lt), fun v hv => ?_, h.apart⟩
  obtain ⟨hl, h3⟩ := h.own v hv
  refine ⟨hl, ?_⟩
  rcases h3 with h3 | ⟨g', c', cur, h3, hb', h4, hrest⟩
  · exact .inl h3
  · exact .inr ⟨g', c', cur, h3, hb', (hb g' (Array.getElem?_eq_some_iff.1 h4).1).trans h4, hrest⟩
theorem IntoAt.alloc {w : World} {B ib n : Nat} {V : Nat → Value} {I : Nat → List Nat} (h : IntoAt w B ib n V I) (o : Obj) : IntoAt (w.alloc o) B ib n V I := h.of_block (fun _ hk => Below.heap_alloc _ _ _ hk)
/-- no list of indices lies in a row of another type -/
theorem IntoAt.far {w : World} {B ib n : Nat} {V : Nat → Value} {I : Nat → List Nat} (h : IntoAt w B ib n V I) {b q v : Nat} {t : TypeId} {f : Nat → Value} (hr : w.rowIs b t q f) (ht : t ≠ 3) (hv : v < n) : (V v).ownBlock ≠ some b := by
  intro e
  obtain ⟨_, h3⟩ := h.own v hv
  rcases h3 with ⟨h3, _⟩ | ⟨g', c', cur, h3, _, h4, _⟩
  · rw [h3] at e; simp [Value.ownBlock] at e
  · rw [h3] at e
    simp [Value.ownBlock] at e
    obtain ⟨_, h5, _⟩ := hr
    rw [← e, h4] at h5
    simp at h5
    exact ht h5.2.symm

/-- what the drawn region of newGraph reads -/
def NS (W : World) (gb lb ib v n : Nat) : Prop := W.cell? ⟨gb, 2, none⟩ = some (.slice (some ⟨ib, 0, none⟩) n n) ∧ W.cell? ⟨lb, 1, none⟩ = some (.int .i64 (v : Int)) ∧ W.cell? ⟨ib, v, none⟩ = some (cv W ⟨ib, v, none⟩) ∧ W.frozen? ⟨ib, v, none⟩ = false
theorem frozen_alloc {W : World} {p : Addr} {x : Value} (h : W.frozen? p = false) (hc : W.cell? p = some x) (o : Obj) : (W.alloc o).frozen? p = false := (((Below.refl _ _).alloc (Nat.le_refl _) o).frozen (p := p) (block_lt_of_cell hc)).trans h
theorem ns_alloc {W : World} {gb lb ib v n : Nat} (h : NS W.drew gb lb ib v n) (o : Obj) : NS (W.alloc o).drew gb lb ib v n :=
  ⟨cell_alloc (W := W) h.1 o, cell_alloc (W := W) h.2.1 o, cv_of (cell_alloc (W := W) h.2.2.1 o), frozen_alloc (W := W) h.2.2.2 h.2.2.1 o⟩
theorem ns_grown {W w1 : World} {gb lb ib v n : Nat} {r : Option Nat} (h : NS W gb lb ib v n) (hg : W.grownBy w1 r) (h1 : r ≠ some gb) (h2 : r ≠ some lb) (h3 : r ≠ some ib) : NS w1 gb lb ib v n := by
  have e1 := (hg.cell_far ⟨gb, 2, none⟩ (block_lt_of_cell h.1) (Ne.symm h1)).trans h.1
  have e2 := (hg.cell_far ⟨lb, 1, none⟩ (block_lt_of_cell h.2.1) (Ne.symm h2)).trans h.2.1
  have e3 := (hg.cell_far ⟨ib, v, none⟩ (block_lt_of_cell h.2.2.1) (Ne.symm h3)).trans h.2.2.1
  exact ⟨e1, e2, cv_of e3, (hg.frozen_far ⟨ib, v, none⟩ (block_lt_of_cell h.2.2.1) (Ne.symm h3)).trans h.2.2.2⟩
theorem ns_store {W : World} {gb lb ib v n : Nat} (h : NS W gb lb ib v n) (h1 : gb ≠ ib) (h2 : lb ≠ ib) (u : Value) : NS (W.setCell ⟨ib, v, none⟩ u) gb lb ib v n := by
  refine ⟨(World.cell?_setCell_other _ _ _ _ (fun e => by simp only [Addr.mk.injEq] at e; omega)).trans h.1, (World.cell?_setCell_other _ _ _ _ (fun e => by simp only [Addr.mk.injEq] at e; omega)).trans h.2.1, cv_of (World.cell?_setCell_same _ _ _ h.2.2.1), by simpa [go_sem] using h.2.2.2⟩

theorem ng_round {w X5 w1 : World} {ib gb db n m v k g cp : Nat} {V : Nat → Value} {L : List Ch.Lk} {a : Option Addr} {cap : Nat} {o : Obj} (hI : IntoAt X5 w.heap.size ib n V (Ch.intoK L k)) (hG : X5.rowIs gb 78 4 (gF n a m cap ib db)) (hD : X5.rowIs db 4 m (fun _ => .bool false)) (hb : Below w.heap.size w X5)
    (hib0 : w.heap.size ≤ ib) (hv : v < n) (hhit : Ch.intoK L (k + 1) v = Ch.intoK L k v ++ [k]) (hmiss : ∀ u : Nat, (v : Int) ≠ (u : Int) → Ch.intoK L (k + 1) u = Ch.intoK L k u) (hgr : (X5.alloc o).drew.grownBy w1 (V v).ownBlock)
    (hown : w1.ownsRow w.heap.size 3 1 (.slice (some ⟨g, 0, none⟩) ((Ch.intoK L k v).length + 1) cp) ((Ch.intoK L k v).length + 1) (((Ch.intoK L k v).map fun i : Nat => Value.int .i64 (i : Int)) ++ [.int .i64 (k : Int)])) (hat : (V v).ownBlock = some g ∨ g = X5.heap.size + 1) :
    IntoAt (w1.setCell ⟨ib, v, none⟩ (.slice (some ⟨g, 0, none⟩) ((Ch.intoK L k v).length + 1) cp)) w.heap.size ib n (fun u => if u = v then .slice (some ⟨g, 0, none⟩) ((Ch.intoK L k v).length + 1) cp else V u) (Ch.intoK L (k + 1)) ∧
    (w1.setCell ⟨ib, v, none⟩ (.slice (some ⟨g, 0, none⟩) ((Ch.intoK L k v).length + 1) cp)).rowIs gb 78 4 (gF n a m cap ib db) ∧ (w1.setCell ⟨ib, v, none⟩ (.slice (some ⟨g, 0, none⟩) ((Ch.intoK L k v).length + 1) cp)).rowIs db 4 m (fun _ => .bool false) ∧
    Below w.heap.size w (w1.setCell ⟨ib, v, none⟩ (.slice (some ⟨g, 0, none⟩) ((Ch.intoK L k v).length + 1) cp)) := by
  have hI1 : IntoAt (X5.alloc o).drew w.heap.size ib n V (Ch.intoK L k) := (hI.alloc o).of_block (fun _ _ => rfl)
  have hz := hb.size
  have ne1 : gb ≠ ib := row_apart hG hI.row (by decide)
  have ne2 : db ≠ ib := row_apart hD hI.row (by decide)
  refine ⟨into_step hI1 hv hgr hown (hat.imp id (fun e => by rw [e]; simp)) hhit (fun u hu => hmiss u (by omega)), ?_, ?_, ?_⟩
  · have h1 := (hG.alloc o).drew
    exact (h1.of_block (hgr.block gb h1.lt (Ne.symm (hI.far hG (by decide) hv)))).setOther (a := ⟨ib, v, none⟩) ne1 _
  · have h1 := (hD.alloc o).drew
    exact (h1.of_block (hgr.block db h1.lt (Ne.symm (hI.far hD (by decide) hv)))).setOther (a := ⟨ib, v, none⟩) ne2 _
  · refine Below.setCell (p := ⟨ib, v, none⟩) ((hb.alloc hz o).drew.grown hgr (by simp; omega) (fun j hj => ?_)) hib0 _
    obtain ⟨_, h3⟩ := hI.own v hv
    rcases h3 with ⟨h3, _⟩ | ⟨g', c', cur, h3, h5, _⟩
    · rw [h3] at hj; simp [Value.ownBlock] at hj
    · rw [h3] at hj
      simp [Value.ownBlock] at hj
      omega

theorem infoInt2 : (Tryz.prog.info? 3).map (fun i => (i.zero, i.size, i.bytes)) = some (some (.int .i64 0), 1, 8) := by kernel_rfl

/-- what newGraph leaves -/
def NgPost (w : World) (n : Nat) (a : Option Addr) (m cap : Nat) (L : List Ch.Lk) (e : Ending) (w' : World) : Prop :=
  ∃ gb ib db V, e = .returned (.pointer (some ⟨gb, 0, none⟩)) ∧ w'.rowIs gb 78 4 (gF n a m cap ib db) ∧ IntoAt w' w.heap.size ib n V (Ch.into L) ∧ w'.rowIs db 4 m (fun _ => .bool false) ∧ w.heap.size ≤ gb ∧ w.heap.size ≤ ib ∧ w.heap.size ≤ db ∧ Below w.heap.size w w'

set_option linter.unusedSimpArgs false in
set_option maxRecDepth 100000 in
set_option maxHeartbeats 4000000 in
theorem newGraph_any (n : Nat) (hn : n ≤ 60) (a : Option Addr) (cap : Nat) (L : List Ch.Lk) (m : Nat) (hlen : Hid (L.length = m)) (hm : m ≤ 300) (hok : Hid (∀ j, j < L.length → Ch.okLk n (L.getD j Ch.noLk) = true)) (w : World) (hL : Hid (LksAt w a L)) :
    Calls Tryz.prog 42 #[sysV n a m cap] w (NgPost w n a m cap L) := by
  obtain ⟨i0, hi, hz0, hz1, hz2⟩ := info_parts infoInt2
  have hmk1 := run_make_row' (P := Tryz.prog) 75 41 (.slice none 0 0) 24 Tryz.underlying75 infoSl rfl .i64 .i64 n (by omega) (by omega)
  have hmk2 := run_make_row' (P := Tryz.prog) 76 4 (.bool false) 1 Tryz.underlying76 infoBool rfl .i64 .i64 m (by omega) (by omega)
  unfold sysV
  go_enter Tryz.func42, Tryz.ntmps42
  go_upto_region 1 with fail
  have c0 : (w.alloc (Obj.cells #[.int .i64 n, .slice a m cap] 24)).cell? ⟨w.heap.size, 0, none⟩ = some (.int .i64 n) := by simp [go_sem]
  have c1 : (w.alloc (Obj.cells #[.int .i64 n, .slice a m cap] 24)).cell? ⟨w.heap.size, 1, none⟩ = some (.slice a m cap) := by simp [go_sem]
  have bX : Below w.heap.size w (w.alloc (Obj.cells #[.int .i64 n, .slice a m cap] 24)) := (Below.refl _ _).alloc (Nat.le_refl _) _
  generalize w.alloc (Obj.cells #[.int .i64 n, .slice a m cap] 24) = X at *
  go_cut [3] from 6 to 18 (fun s3 wx => ∃ gb ib db, s3 = .pointer (some ⟨gb, 0, none⟩) ∧ Hid (Laid w wx gb ib db n a m cap) ∧ wx.cell? ⟨w.heap.size, 1, none⟩ = some (.slice a m cap))
  case first =>
    have lt := block_lt_of_cell c0
    have S0 : X.drew.cell? ⟨w.heap.size, 0, none⟩ = some (.int .i64 n) ∧ X.drew.cell? ⟨w.heap.size, 1, none⟩ = some (.slice a m cap) ∧ Below X.heap.size X X.drew := ⟨c0, c1, (Below.refl _ _).drew⟩
    have L1 := Lib.hid (laid_1 (n := n) (a := a) (m := m) (cap := cap) bX)
    have L2 := Lib.hid (laid_2 (n := n) (a := a) (m := m) (cap := cap) bX)
    clear bX
    go_region_held3 (fun w' => w'.cell? ⟨w.heap.size, 0, none⟩ = some (.int .i64 n) ∧ w'.cell? ⟨w.heap.size, 1, none⟩ = some (.slice a m cap) ∧ Below X.heap.size X w')
      (first | with_reducible exact S0 | with_reducible exact keep2 (by assumption) ((Below.refl _ _).alloc (Nat.le_refl _) _) | go_keep) (fail)
    all_goals go_wp2_with fail
    all_goals go_meet
    · exact ⟨_, _, _, rfl, L1, (cell_alloc (cell_alloc (cell_alloc c1 _) _) _)⟩
    · exact ⟨_, _, _, rfl, L2, (cell_alloc (cell_alloc (cell_alloc c1 _) _) _)⟩
  case rest =>
    clear hmk1 hmk2 c0 c1 bX
    generalize wc = Y at hcut ⊢
    clear wc
    obtain ⟨gb, ib, db, rfl, HD, c1⟩ := hcut
    have hib0 := HD.out.i0
    have hgb0 := HD.out.g0
    have hdb0 := HD.out.d0
    go_wp2
    go_loopw [22] (fun i wr => ∃ (k : Nat) (V : Nat → Value), k ≤ m ∧ i = .int .i64 k ∧ Hid (IntoAt wr w.heap.size ib n V (Ch.intoK L k)) ∧ Hid (wr.rowIs gb 78 4 (gF n a m cap ib db)) ∧ Hid (wr.rowIs db 4 m (fun _ => .bool false)) ∧ Below w.heap.size w wr) (fun i _ => m - (RowKit.intOf i).toNat)
    case atStart =>
      exact ⟨0, fun _ => .slice none 0 0, Nat.zero_le _, rfl, Lib.hid ⟨HD.out.i, fun v _ => World.ownsRow_nil _ _ _ _, fun v v' _ _ _ g e => by simp [Value.ownBlock] at e⟩, Lib.hid HD.out.g, Lib.hid HD.out.d, HD.out.b⟩
    case round =>
      obtain ⟨k, V, hk, rfl, HI, HG, HDr, hb⟩ := hrel
      by_cases hlt : k < m
      · obtain ⟨x, rfl, hl3⟩ := hL.out k (by have := hlen.out; omega)
        have hok1 := Ch.okLk_spec (hok.out k (by have := hlen.out; omega))
        obtain ⟨f, t, mo, hlk⟩ : ∃ f t mo, L.getD k Ch.noLk = ⟨f, t, mo⟩ := ⟨_, _, _, rfl⟩
        have ⟨g0, g1, g2⟩ := hl3.below hb
        have hhit := fun v => Ch.intoK_hit (L := L) (k := k) (v := v)
        have hmiss := fun v => Ch.intoK_miss (L := L) (k := k) (v := v)
        rw [hlk] at g0 g1 g2 hok1 hhit hmiss
        simp only at hok1 g0 g1 g2 hhit hmiss
        obtain ⟨v, rfl⟩ : ∃ v : Nat, t = (v : Int) := ⟨t.toNat, by omega⟩
        have hvn : v < n := by omega
        replace hhit := Lib.hid (hhit v rfl)
        replace hmiss := Lib.hid (fun u hu => hmiss u hu)
        clear hl3 hok1 hlk
        have hi5 : (k : Int) < (m : Int) := by omega
        have hi6 : (v : Int) < (n : Int) := by omega
        have hi7 : (0 : Int) ≤ (v : Int) := by omega
        go_upto_region 5 with fail
        have G2 : wr.cell? ⟨gb, 2, none⟩ = some (.slice (some ⟨ib, 0, none⟩) n n) := HG.out.cell (i := 2) (by omega)
        have IV : wr.cell? ⟨ib, v, none⟩ = some (V v) := HI.out.row.cell hvn
        have IF : wr.frozen? ⟨ib, v, none⟩ = false := HI.out.row.frozen v
        have lgb := block_lt_of_cell G2
        have lib := block_lt_of_cell IV
        have o1 : wr.alloc (Obj.cells #[.int .i64 f, .int .i64 (v : Int), .int .i64 mo] 54) = wr.alloc (Obj.cells #[.int .i64 f, .int .i64 (v : Int), .int .i64 mo] 54) := rfl
        have G2' := cell_alloc G2 (Obj.cells #[.int .i64 f, .int .i64 (v : Int), .int .i64 mo] 54)
        have IV' := cell_alloc IV (Obj.cells #[.int .i64 f, .int .i64 (v : Int), .int .i64 mo] 54)
        have LB : (wr.alloc (Obj.cells #[.int .i64 f, .int .i64 (v : Int), .int .i64 mo] 54)).cell? ⟨wr.heap.size, 1, none⟩ = some (.int .i64 (v : Int)) := by simp [go_sem]
        have HI' := Lib.hid (HI.out.alloc (Obj.cells #[.int .i64 f, .int .i64 (v : Int), .int .i64 mo] 54))
        have HG' := Lib.hid (HG.out.alloc (Obj.cells #[.int .i64 f, .int .i64 (v : Int), .int .i64 mo] 54))
        have HD' := Lib.hid (HDr.out.alloc (Obj.cells #[.int .i64 f, .int .i64 (v : Int), .int .i64 mo] 54))
        have LR := Lib.hid (World.rowIs_alloc wr #[.int .i64 f, .int .i64 (v : Int), .int .i64 mo] 54 (fun i => (#[Value.int .i64 f, .int .i64 (v : Int), .int .i64 mo][i]?).getD undef) (fun i hi => by rw [Array.getElem?_eq_getElem hi]; rfl))
        have hb' : Below w.heap.size w (wr.alloc (Obj.cells #[.int .i64 f, .int .i64 (v : Int), .int .i64 mo] 54)) := hb.alloc hb.size _
        have hsz' : wr.heap.size < (wr.alloc (Obj.cells #[.int .i64 f, .int .i64 (v : Int), .int .i64 mo] 54)).heap.size := by simp
        clear o1 G2 IV IF HI HG HDr hb g0 g1 g2
        generalize wr.alloc (Obj.cells #[.int .i64 f, .int .i64 (v : Int), .int .i64 mo] 54) = X5 at *
        generalize wr.heap.size = lb at *
        have IF' : X5.frozen? ⟨ib, v, none⟩ = false := HI'.out.row.frozen v
        have hgb : (V v).ownBlock ≠ some gb := HI'.out.far HG'.out (by decide) hvn
        have hib : (V v).ownBlock ≠ some ib := HI'.out.far HI'.out.row (by decide) hvn
        have hlb : (V v).ownBlock ≠ some lb := HI'.out.far LR.out (by decide) hvn
        have ngi : gb ≠ ib := row_apart HG'.out HI'.out.row (by decide)
        have nli : lb ≠ ib := row_apart LR.out HI'.out.row (by decide)
        have hown : X5.ownsRow w.heap.size 3 1 (V v) (Ch.intoK L k v).length ((Ch.intoK L k v).map fun i : Nat => Value.int .i64 (i : Int)) := HI'.out.own v hvn
        replace hown := Lib.hid hown
        have hlA : ib < X5.heap.size := block_lt_of_cell IV'
        have hlB : gb < X5.heap.size := block_lt_of_cell G2'
        have T := Lib.hid (fun w1 g cp hgr hown hat => ng_round (w1 := w1) (g := g) (cp := cp) (o := Obj.cells #[.int .i64 (k : Int)] 3) HI'.out HG'.out HD'.out hb' hib0 hvn hhit.out hmiss.out hgr hown hat)
        have hll := Ch.intoK_len L k v
        have hbs := hb'.size
        have S0 : X5.drew.cell? ⟨gb, 2, none⟩ = some (.slice (some ⟨ib, 0, none⟩) n n) ∧ X5.drew.cell? ⟨lb, 1, none⟩ = some (.int .i64 (v : Int)) ∧ X5.drew.cell? ⟨ib, v, none⟩ = some (V v) ∧ X5.drew.frozen? ⟨ib, v, none⟩ = false := ⟨G2', LB, IV', IF'⟩
        clear G2' IV' LB HI' HG' HD' LR hb' IF' HD c1
        refine region_head_held 17 (fun w' => w'.cell? ⟨gb, 2, none⟩ = some (.slice (some ⟨ib, 0, none⟩) n n) ∧ w'.cell? ⟨lb, 1, none⟩ = some (.int .i64 (v : Int)) ∧ w'.cell? ⟨ib, v, none⟩ = some (V v) ∧ w'.frozen? ⟨ib, v, none⟩ = false) (by kernel_rfl) (by kernel_rfl) S0 (fun hHeld => ?_)
        simp only [List.take_succ_cons, List.take_zero, List.drop_succ_cons, List.drop_zero]
        refine wpAnyH_take (i := 0) (v := ?_) rfl (by kernel_rfl) (by kernel_rfl) (by kernel_rfl) (fun _ _ _ h => h) (Or.inl ⟨by rfl, ?_⟩) (by assumption) ?_
        rotate_left 1
        · (intro w hSw; (try dsimp only at hSw); go_simp; all_goals with_reducible rfl)
        try simp only [Act.put, List.setIfInBounds_toArray, List.set_cons_zero, List.set_cons_succ]
        refine wpAnyH_take (i := 1) (v := ?_) rfl (by kernel_rfl) (by kernel_rfl) (by kernel_rfl) (fun _ _ _ h => h) (Or.inl ⟨by rfl, ?_⟩) (by assumption) ?_
        rotate_left 1
        · (intro w hSw; (try dsimp only at hSw); go_simp; all_goals with_reducible rfl)
        try simp only [Act.put, List.setIfInBounds_toArray, List.set_cons_zero, List.set_cons_succ]
        refine wpAnyH_take (i := 2) (v := ?_) rfl (by kernel_rfl) (by kernel_rfl) (by kernel_rfl) (fun _ _ _ h => h) (Or.inl ⟨by rfl, ?_⟩) (by assumption) ?_
        rotate_left 1
        · (intro w hSw; (try dsimp only at hSw); go_simp; all_goals with_reducible rfl)
        try simp only [Act.put, List.setIfInBounds_toArray, List.set_cons_zero, List.set_cons_succ]
        refine wpAnyH_take (i := 3) (v := ?_) rfl (by kernel_rfl) (by kernel_rfl) (by kernel_rfl) (fun _ _ _ h => h) (Or.inl ⟨by rfl, ?_⟩) (by assumption) ?_
        rotate_left 1
        · (intro w hSw; (try dsimp only at hSw); go_simp; all_goals with_reducible rfl)
        try simp only [Act.put, List.setIfInBounds_toArray, List.set_cons_zero, List.set_cons_succ]
        refine wpAnyH_take (i := 4) (v := ?_) rfl (by kernel_rfl) (by kernel_rfl) (by kernel_rfl) (fun _ _ _ h => h) (Or.inl ⟨by rfl, ?_⟩) (by assumption) ?_
        rotate_left 1
        · (intro w hSw; (try dsimp only at hSw); go_simp; all_goals with_reducible rfl)
        try simp only [Act.put, List.setIfInBounds_toArray, List.set_cons_zero, List.set_cons_succ]
        refine wpAnyH_take (i := 5) (v := ?_) rfl (by kernel_rfl) (by kernel_rfl) (by kernel_rfl) (fun _ _ _ h => h) (Or.inl ⟨by rfl, ?_⟩) (by assumption) ?_
        rotate_left 1
        · (intro w hSw; (try dsimp only at hSw); go_simp; all_goals with_reducible rfl)
        try simp only [Act.put, List.setIfInBounds_toArray, List.set_cons_zero, List.set_cons_succ]
        refine wpAnyH_take (i := 6) (v := ?_) rfl (by kernel_rfl) (by kernel_rfl) (by kernel_rfl) (fun _ _ _ h => h) (Or.inl ⟨by rfl, ?_⟩) (by assumption) ?_
        rotate_left 1
        · (intro w hSw; (try dsimp only at hSw); go_simp; all_goals with_reducible rfl)
        try simp only [Act.put, List.setIfInBounds_toArray, List.set_cons_zero, List.set_cons_succ]
        refine wpAnyH_take (i := 7) (v := ?_) rfl (by kernel_rfl) (by kernel_rfl) (by kernel_rfl) (fun _ _ _ h => h) (Or.inl ⟨by rfl, ?_⟩) (by assumption) ?_
        rotate_left 1
        · (intro w hSw; (try dsimp only at hSw); go_simp; all_goals with_reducible rfl)
        try simp only [Act.put, List.setIfInBounds_toArray, List.set_cons_zero, List.set_cons_succ]
        refine wpAnyH_take (i := 8) (v := ?_) rfl (by kernel_rfl) (by kernel_rfl) (by kernel_rfl) (fun _ _ _ h => h) (Or.inl ⟨by rfl, ?_⟩) (by assumption) ?_
        rotate_left 1
        · (intro w hSw; (try dsimp only at hSw); go_simp; all_goals with_reducible rfl)
        try simp only [Act.put, List.setIfInBounds_toArray, List.set_cons_zero, List.set_cons_succ]
        refine wpAnyH_take (i := 9) (v := ?_) rfl (by kernel_rfl) (by kernel_rfl) (by kernel_rfl) (fun _ _ _ h => h) (Or.inl ⟨by rfl, ?_⟩) (by assumption) ?_
        rotate_left 1
        · (intro w hSw; (try dsimp only at hSw); go_simp; all_goals with_reducible rfl)
        try simp only [Act.put, List.setIfInBounds_toArray, List.set_cons_zero, List.set_cons_succ]
        refine wpAnyH_take (i := 10) (v := ?_) rfl (by kernel_rfl) (by kernel_rfl) (by kernel_rfl) (fun _ _ _ h => h) (Or.inl ⟨by rfl, ?_⟩) (by assumption) ?_
        rotate_left 1
        · (intro w hSw; (try dsimp only at hSw); go_simp; all_goals with_reducible rfl)
        try simp only [Act.put, List.setIfInBounds_toArray, List.set_cons_zero, List.set_cons_succ]
        refine wpAnyH_take (i := 11) (v := ?_) rfl (by kernel_rfl) (by kernel_rfl) (by kernel_rfl) (fun _ _ _ h => h) (Or.inl ⟨by rfl, ?_⟩) (by assumption) ?_
        rotate_left 1
        · (intro w hSw; (try dsimp only at hSw); go_simp; all_goals with_reducible rfl)
        try simp only [Act.put, List.setIfInBounds_toArray, List.set_cons_zero, List.set_cons_succ]
        refine wpAnyH_take (i := 12) (v := ?_) rfl (by kernel_rfl) (by kernel_rfl) (by kernel_rfl) (fun _ _ _ h => h) (Or.inl ⟨by rfl, ?_⟩) (by assumption) ?_
        rotate_left 1
        · (intro w hSw; (try dsimp only at hSw); go_simp; all_goals with_reducible rfl)
        try simp only [Act.put, List.setIfInBounds_toArray, List.set_cons_zero, List.set_cons_succ]
        refine wpAnyH_take (i := 13) (v := ?_) rfl (by kernel_rfl) (by kernel_rfl) (by kernel_rfl) (fun _ _ _ h => h) (Or.inl ⟨by rfl, ?_⟩) (by assumption) ?_
        rotate_left 1
        · (intro w hSw; (try dsimp only at hSw); go_simp; all_goals with_reducible rfl)
        try simp only [Act.put, List.setIfInBounds_toArray, List.set_cons_zero, List.set_cons_succ]
        refine wpAnyH_take (i := 14) (v := ?_) rfl (by kernel_rfl) (by kernel_rfl) (by kernel_rfl) (fun _ _ _ h => h) (Or.inl ⟨by rfl, ?_⟩) (by assumption) ?_
        rotate_left 1
        · (intro w hSw; (try dsimp only at hSw); go_simp; all_goals with_reducible rfl)
        try simp only [Act.put, List.setIfInBounds_toArray, List.set_cons_zero, List.set_cons_succ]
        refine wpAnyH_ready (rs := [15]) (by kernel_rfl) (by simp) ?_
        refine AllReadyH.cons rfl (fun K hK => ?_) ?_
        rotate_left 1
        · exact AllReadyH.nil
        go_simp
        have S1 : (X5.alloc (Obj.cells #[.int .i64 (k : Int)] 3)).drew.cell? ⟨gb, 2, none⟩ = some (.slice (some ⟨ib, 0, none⟩) n n) ∧ (X5.alloc (Obj.cells #[.int .i64 (k : Int)] 3)).drew.cell? ⟨lb, 1, none⟩ = some (.int .i64 (v : Int)) ∧ (X5.alloc (Obj.cells #[.int .i64 (k : Int)] 3)).drew.cell? ⟨ib, v, none⟩ = some (V v) ∧ (X5.alloc (Obj.cells #[.int .i64 (k : Int)] 3)).drew.frozen? ⟨ib, v, none⟩ = false := ⟨cell_alloc hHeld.1 _, cell_alloc hHeld.2.1 _, cell_alloc hHeld.2.2.1 _, (((Below.refl X5.heap.size X5).alloc (Nat.le_refl _) (Obj.cells #[.int .i64 (k : Int)] 3)).frozen (p := ⟨ib, v, none⟩) hlA).trans hHeld.2.2.2⟩
        refine hK.out _ _ S1 (fun hHeld2 => ?_)
        clear hK K
        try simp only [Act.put, List.setIfInBounds_toArray, List.set_cons_zero, List.set_cons_succ]
        refine wpAnyH_ready (rs := [16]) (by kernel_rfl) (by simp) ?_
        refine AllReadyH.cons rfl (fun K hK => ?_) ?_
        rotate_left 1
        · exact AllReadyH.nil
        refine step_append_lies _ (by rfl) _ _ _ (by rfl) w.heap.size 3 i0 _ 1 8 Tryz.underlying41 hi hz0 hz1 hz2 rfl (by omega) (V v) (Ch.intoK L k v).length ((Ch.intoK L k v).map fun i : Nat => Value.int .i64 (i : Int)) (by rfl) ((hown.out.alloc _).drew) ⟨X5.heap.size, 0, none⟩ 1 1 [.int .i64 (k : Int)] (by rfl) (by rfl) (World.news_of_block (cs := #[.int .i64 (k : Int)]) (t := 3) (fr := (0, 0)) (heap_alloc_new X5.drew _)) (by simp [Value.oneCell']) (by omega) (by unfold maxLen; omega) (by omega) (by simp; omega) (X5.heap.size + 1) (by simp) ?_
        intro g cp w1 hown1 hgrow hat hlt
        have hltA : ib < (X5.alloc (Obj.cells #[.int .i64 (k : Int)] 3)).drew.heap.size := by simp; omega
        have hltB : gb < (X5.alloc (Obj.cells #[.int .i64 (k : Int)] 3)).drew.heap.size := by simp; omega
        have hltC : lb < (X5.alloc (Obj.cells #[.int .i64 (k : Int)] 3)).drew.heap.size := by simp; omega
        have S2 : w1.cell? ⟨gb, 2, none⟩ = some (.slice (some ⟨ib, 0, none⟩) n n) ∧ w1.cell? ⟨lb, 1, none⟩ = some (.int .i64 (v : Int)) ∧ w1.cell? ⟨ib, v, none⟩ = some (V v) ∧ w1.frozen? ⟨ib, v, none⟩ = false :=
          ⟨(World.cell?_of_block (hgrow.block gb hltB (fun e => hgb e.symm))).trans hHeld2.1, (World.cell?_of_block (hgrow.block lb hltC (fun e => hlb e.symm))).trans hHeld2.2.1, (World.cell?_of_block (hgrow.block ib hltA (fun e => hib e.symm))).trans hHeld2.2.2.1, (World.frozen?_of_block (hgrow.block ib hltA (fun e => hib e.symm))).trans hHeld2.2.2.2⟩
        refine hK.out _ _ S2 (fun hHeld3 => ?_)
        clear hK K
        try simp only [Act.put, List.setIfInBounds_toArray, List.set_cons_zero, List.set_cons_succ]
        refine wpAnyH_done (by kernel_rfl) ?_ _
        show wpList _ _ _ _ _ _
        obtain ⟨t1, t2, t3, t4⟩ := S2
        have R := Lib.hid (T.out w1 g cp hgrow hown1 hat)
        clear hgrow hown1 hat T S0 S1 hHeld hHeld2 hHeld3 hown
        go_wp2
        go_roundw
        all_goals first
          | exact ⟨k + 1, _, by omega, by go_num, Lib.hid R.out.1, Lib.hid R.out.2.1, Lib.hid R.out.2.2.1, R.out.2.2.2⟩
          | (simp [RowKit.intOf]; omega)
          | omega
      · obtain rfl : k = m := by omega
        have hi5 : ¬ (k : Int) < (k : Int) := by omega
        have HI2 : Hid (IntoAt wr w.heap.size ib n V (Ch.into L)) := Lib.hid (by have h := HI.out; rw [show Ch.intoK L k = Ch.into L from funext fun v => by rw [← Ch.intoK_all, hlen.out]] at h; exact h)
        clear HI
        go_wp2
        refine bodyPost_ret (v := .pointer (some ⟨gb, 0, none⟩)) (by simp [results, Tryz.results42, go_sem]) rfl ?_
        exact ⟨gb, ib, db, V, rfl, HG.out, HI2.out, HDr.out, hgb0, hib0, hdb0, hb⟩
end Go.Proofs.YtemacokojdeimaaGreatDoor

/- Contracts of package chain: linksInto. -/
namespace Go.Proofs.YtemacokojdeimaaGreatDoor
open Go.RowKit
attribute [local go_sem] Oper.semAt_some

theorem linksInto_any (gb v : Nat) (w : World) :
    Calls Tryz.prog 80 #[.pointer (some ⟨gb, 0, none⟩), .int .i64 (v : Int)] w fun e w' => e = .returned (.func (.func 92) #[] #[.pointer (some ⟨w.heap.size, 0, none⟩), .pointer (some ⟨w.heap.size + 1, 0, none⟩)]) ∧ w' = (w.alloc (.cells #[.pointer (some ⟨gb, 0, none⟩)] 67)).alloc (.cells #[.int .i64 (v : Int)] 3) := by
  have hmf : ∀ (fn : Fn) (first cap : Array Value) (w : World), (Instr.makeFunc fn first cap).run Tryz.prog w = .ok (.func fn first cap) w := fun _ _ _ _ => rfl
  go_enter Tryz.func80, Tryz.ntmps80
  go_wp2
  go_ret
  exact ⟨rfl, rfl⟩

/-- what the iterator reads -/
structure LK (b2 b3 gb ib db n m v : Nat) (a av : Option Addr) (cap cr : Nat) (I : List Nat) (L : List Ch.Lk) (D : Nat → Bool) (W : World) : Prop where
  c2 : W.cell? ⟨b2, 0, none⟩ = some (.pointer (some ⟨gb, 0, none⟩))
  c3 : W.cell? ⟨b3, 0, none⟩ = some (.int .i64 (v : Int))
  g1 : W.cell? ⟨gb, 1, none⟩ = some (.slice a m cap)
  g2 : W.cell? ⟨gb, 2, none⟩ = some (.slice (some ⟨ib, 0, none⟩) n n)
  g3 : W.cell? ⟨gb, 3, none⟩ = some (.slice (some ⟨db, 0, none⟩) m m)
  iv : W.cell? ⟨ib, v, none⟩ = some (.slice av I.length cr)
  ix : ∀ k, k < I.length → ∃ x, av = some x ∧ W.cell? (x.add k) = some (.int .i64 ((I.getD k 0 : Nat) : Int))
  dr : ∀ k, k < I.length → W.cell? ⟨db, I.getD k 0, none⟩ = some (.bool (D (I.getD k 0)))
  lk : ∀ k, k < I.length → ∃ x, a = some x ∧ LkAt W (x.add (I.getD k 0 * 3)) (L.getD (I.getD k 0) Ch.noLk)

/-- the links that are handed out -/
def outs (I : List Nat) (L : List Ch.Lk) (D : Nat → Bool) : List Ch.Lk := (I.filter fun i => !D i).map fun i => L.getD i Ch.noLk
theorem outs_next {I : List Nat} {L : List Ch.Lk} {D : Nat → Bool} {k : Nat} (h : k < I.length) : outs (I.take (k + 1)) L D = if D (I.getD k 0) then outs (I.take k) L D else outs (I.take k) L D ++ [L.getD (I.getD k 0) Ch.noLk] := by
  unfold outs
  have e : I[k] = I.getD k 0 := by rw [List.getD, List.getElem?_eq_getElem h]; rfl
  rw [List.take_succ_eq_append_getElem h, e, List.filter_append, List.map_append, List.filter_cons]
  cases D (I.getD k 0) <;> simp
theorem outs_pre {I : List Nat} {L : List Ch.Lk} {D : Nat → Bool} (k : Nat) : outs (I.take k) L D <+: outs I L D := by
  unfold outs
  exact ((List.take_prefix k I).filter _).map _

theorem grown_drew (w : World) : w.grownBy w.drew none := ⟨rfl, rfl, rfl, Nat.le_refl _, fun _ _ _ => rfl⟩

set_option maxRecDepth 100000 in
set_option maxHeartbeats 2000000 in
theorem linksInto1_in (q : Nat) (hq : 2 ≤ q) (l b2 b3 gb ib db n m v : Nat) (hv : v < n) (a av : Option Addr) (cap cr : Nat) (I : List Nat) (hI : I.length ≤ 300) (hIm : Hid (∀ k, k < I.length → I.getD k 0 < m)) (L : List Ch.Lk) (D : Nat → Bool) (J Jx : List Ch.Lk → World → Prop)
    (hK : ∀ pre W, J pre W → LK b2 b3 gb ib db n m v a av cap cr I L D W)
    (hY : ∀ pre x W, J pre W → pre ++ [x] <+: outs I L D → YieldAt Fence.wide (q - 1) Tryz.prog l #[lkV x] W fun e W' =>
      (e = .returned (.bool true) ∧ J (pre ++ [x]) W' ∧ KeepsWalks W W') ∨ (e = .returned (.bool false) ∧ Jx (pre ++ [x]) W'))
    (W : World) (hA : AbidesFrom W.heap.size J) (h0 : J [] W) :
    CallsIn Fence.wide q Tryz.prog 92 #[.func (.yield l) #[] #[], .pointer (some ⟨b2, 0, none⟩), .pointer (some ⟨b3, 0, none⟩)] W fun e W' => (∃ v, e = .returned v) ∧ (J (outs I L D) W' ∨ ∃ pre, pre <+: outs I L D ∧ Jx pre W') := by
  have hn1 : 1 ≤ q := by omega
  obtain ⟨e2, e3, f1, f2, f3, iv, ix, dr, lk⟩ := hK _ _ h0
  have hv1 : (0 : Int) ≤ (v : Int) := by omega
  have hv2 : (v : Int) < (n : Int) := by omega
  clear ix dr lk f1 f3
  refine callsIn_of_wp Tryz.func92 rfl trivial ?_ rfl
  simp only [Tryz.ntmps92, List.size_toArray, List.length_cons, List.length_nil, Nat.reduceAdd, Nat.reduceSub, Array.replicate_succ, Array.replicate_zero, List.push_toArray, List.append_toArray, List.nil_append, List.cons_append]
  gi_wp2
  gi_big_region
  gi_wp2
  gi_loopw [14] (fun i wr => ∃ k : Nat, k ≤ I.length ∧ i = .int .i64 k ∧ J (outs (I.take k) L D) wr) (fun i _ => I.length - (RowKit.intOf i).toNat)
  case atStart => exact ⟨0, Nat.zero_le _, rfl, hA _ _ _ none h0 (grown_drew W) (fun _ e => by cases e)⟩
  case round =>
    obtain ⟨k, hk, rfl, hJs⟩ := hrel
    clear e2 e3 f2 iv
    by_cases hlt : k < I.length
    · obtain ⟨e2, e3, f1, f2, f3, iv, ix, dr, lk⟩ := hK _ _ hJs
      obtain ⟨x, rfl, hx⟩ := ix k hlt
      have hd := dr k hlt
      obtain ⟨y, rfl, hl3⟩ := lk k hlt
      have him := hIm.out k hlt
      have hnx := Lib.hid (outs_next (L := L) (D := D) hlt)
      have hpre := Lib.hid (outs_pre (I := I) (L := L) (D := D) (k + 1))
      obtain ⟨i, hi⟩ : ∃ i, I.getD k 0 = i := ⟨_, rfl⟩
      rw [hi] at hx hd hl3 him hnx
      have hi5 : (k : Int) < (I.length : Int) := by omega
      have hi6 : (0 : Int) ≤ (i : Int) := by omega
      have hi7 : (i : Int) < (m : Int) := by omega
      clear ix dr lk hi e3 f2 iv hK h0 hA
      cases hDi : D i
      · rw [hDi] at hd hnx
        simp only [Bool.false_eq_true, if_false] at hnx
        obtain ⟨f, t, mo, hlk⟩ : ∃ f t mo, L.getD i Ch.noLk = ⟨f, t, mo⟩ := ⟨_, _, _, rfl⟩
        have ⟨q0, q1, q2⟩ := hl3
        rw [hlk] at q0 q1 q2 hnx
        simp only at q0 q1 q2
        have hp2 := hpre.out
        rw [hnx.out] at hp2
        obtain ⟨fn, tmps, assign, body, hy, hR⟩ := hY _ _ wr hJs hp2
        simp only [lkV] at hy
        clear hl3 hY hDi hlk hp2
        gi_wp2
        refine hR.mono ?_
        rintro e W3 (⟨rfl, hJ3, hk3⟩ | ⟨rfl, hJx3⟩)
        · gi_wp2
          go_roundw
          case rel => exact ⟨k + 1, by omega, by go_num, by rw [hnx.out]; exact hJ3⟩
          case measure => first | (simp [RowKit.intOf]; done) | (simp [RowKit.intOf]; omega) | omega
        · gi_wp2
          refine bodyPost_ret (results_none rfl _ _ _) rfl ?_
          exact ⟨⟨_, rfl⟩, .inr ⟨_, by have := hpre.out; rw [hnx.out] at this; exact this, hJx3⟩⟩
      · rw [hDi] at hd hnx
        simp only [if_true] at hnx
        clear hl3 hY hDi
        gi_wp2
        refine ⟨fun _ h => (by cases h), ?_⟩
        gi_wp2
        go_roundw
        case rel => exact ⟨k + 1, by omega, by go_num, by rw [hnx.out]; exact hJs⟩
        case measure => first | (simp [RowKit.intOf]; done) | (simp [RowKit.intOf]; omega) | omega
    · obtain rfl : k = I.length := by omega
      have hneg : ¬ (I.length : Int) < (I.length : Int) := by omega
      gi_wp2
      go_end0
      refine ⟨⟨_, rfl⟩, .inl ?_⟩
      rw [List.take_length] at hJs
      exact hJs

theorem linksInto_hands (q : Nat) (hq : 2 ≤ q) (b2 b3 gb ib db n m v : Nat) (hv : v < n) (a av : Option Addr) (cap cr : Nat) (I : List Nat) (hI : I.length ≤ 300) (hIm : ∀ k, k < I.length → I.getD k 0 < m) (L : List Ch.Lk) (D : Nat → Bool) (w : World) :
    HandsG lkV q Tryz.prog 92 #[.pointer (some ⟨b2, 0, none⟩), .pointer (some ⟨b3, 0, none⟩)] (outs I L D) (LK b2 b3 gb ib db n m v a av cap cr I L D) w := fun l J Jx W _ hA hK hY h0 =>
  linksInto1_in q hq l b2 b3 gb ib db n m v hv a av cap cr I hI (Lib.hid hIm) L D J Jx hK hY W hA h0
end Go.Proofs.YtemacokojdeimaaGreatDoor

/- What settle holds: its plain side. -/
namespace Ch

/-- what is true of settle's state at every step -/
structure WF (n : Nat) (x : St) : Prop where
  n1 : 1 ≤ n
  n2 : n ≤ 60
  s : x.s.length = n
  w : x.w.length = 60
  c : x.c.length = 60
  q : ∀ u ∈ x.q, u < n ∧ x.w.getD u false = true
  nd : x.q.Nodup
  cb : ∀ i, i < n → 0 ≤ x.c.getD i 0 ∧ x.c.getD i 0 < (n : Int)
  hi : ∀ i, i < n → x.s.getD i 0 ≤ 1152921504606846976
  lo : ∀ i, i < n → -4503599627370496 * x.c.getD i 0 ≤ x.s.getD i 0

theorem set_same {α : Type} {l : List α} {i : Nat} {v d : α} (h : i < l.length) : (l.set i v).getD i d = v := by
  rw [List.getD, List.getElem?_set_self h]; rfl
theorem set_other {α : Type} {l : List α} {i j : Nat} {v d : α} (h : i ≠ j) : (l.set i v).getD j d = l.getD j d := by
  rw [List.getD, List.getD, List.getElem?_set_ne h]

theorem nodup_len : ∀ (n : Nat) (l : List Nat), l.Nodup → (∀ u ∈ l, u < n) → l.length ≤ n
  | 0, [], _, _ => Nat.le_refl _
  | 0, u :: _, _, h => absurd (h u List.mem_cons_self) (by omega)
  | n + 1, l, hn, h => by
    by_cases hm : n ∈ l
    · have h1 := nodup_len n (l.erase n) (hn.erase n) (fun u hu => by
        have h2 := (List.Nodup.mem_erase_iff hn).1 hu
        have := h u h2.2
        have := h2.1
        omega)
      have h3 := List.length_erase_of_mem hm
      omega
    · have h1 := nodup_len n l hn (fun u hu => by
        have := h u hu
        have : u ≠ n := fun e => hm (by rw [← e]; exact hu)
        omega)
      omega
theorem WF.qlen {n : Nat} {x : St} (h : WF n x) : x.q.length ≤ 60 := Nat.le_trans (nodup_len n x.q h.nd (fun u hu => (h.q u hu).1)) h.n2

/-- a node is taken out of the queue -/
theorem WF.take {n u : Nat} {q : List Nat} {x : St} (h : WF n x) (hq : x.q = u :: q) : WF n { x with w := x.w.set u false, q := q } := by
  have hnd := h.nd
  rw [hq] at hnd
  have hnd2 := List.nodup_cons.1 hnd
  refine ⟨h.n1, h.n2, h.s, by simpa using h.w, h.c, fun v hv => ?_, hnd2.2, h.cb, h.hi, h.lo⟩
  have h1 := h.q v (by rw [hq]; exact List.mem_cons_of_mem _ hv)
  refine ⟨h1.1, ?_⟩
  show (x.w.set u false).getD v false = true
  rw [set_other (fun e => hnd2.1 (by rw [e]; exact hv))]
  exact h1.2

/-- a link makes a sum lower -/
theorem WF.lower {n u f : Nat} {m : Int} {x : St} (h : WF n x) (hu : u < n) (hf : f < n) (hm : -4503599627370496 ≤ m) (hlt : x.s.getD u 0 + m < x.s.getD f 0) (hc : x.c.getD u 0 + 1 ≠ (n : Int)) :
    WF n { x with s := x.s.set f (x.s.getD u 0 + m), c := x.c.set f (x.c.getD u 0 + 1) } := by
  have hcu := h.cb u hu
  have hlu := h.lo u hu
  have hn := h.n2
  refine ⟨h.n1, h.n2, by simpa using h.s, h.w, by simpa using h.c, h.q, h.nd, fun i hi => ?_, fun i hi => ?_, fun i hi => ?_⟩
  · show 0 ≤ (x.c.set f _).getD i 0 ∧ (x.c.set f _).getD i 0 < (n : Int)
    by_cases e : f = i
    · subst e; rw [set_same (by rw [h.c]; omega)]; omega
    · rw [set_other e]; exact h.cb i hi
  · show (x.s.set f _).getD i 0 ≤ 1152921504606846976
    by_cases e : f = i
    · subst e; rw [set_same (by rw [h.s]; exact hf)]; have := h.hi f hf; omega
    · rw [set_other e]; exact h.hi i hi
  · show -4503599627370496 * (x.c.set f _).getD i 0 ≤ (x.s.set f _).getD i 0
    by_cases e : f = i
    · subst e; rw [set_same (by rw [h.c]; omega), set_same (by rw [h.s]; exact hf)]; omega
    · rw [set_other e, set_other e]; exact h.lo i hi

/-- a node joins the queue -/
theorem WF.put {n f : Nat} {x : St} (h : WF n x) (hf : f < n) (hw : x.w.getD f false = false) : WF n { x with w := x.w.set f true, q := x.q ++ [f] } := by
  have hn := h.n2
  have hfq : f ∉ x.q := fun hm => by have := (h.q f hm).2; rw [hw] at this; cases this
  refine ⟨h.n1, h.n2, h.s, by simpa using h.w, h.c, fun v hv => ?_, ?_, h.cb, h.hi, h.lo⟩
  · rcases List.mem_append.1 hv with hv | hv
    · refine ⟨(h.q v hv).1, ?_⟩
      show (x.w.set f true).getD v false = true
      rw [set_other (fun e => hfq (by rw [e]; exact hv))]
      exact (h.q v hv).2
    · obtain rfl : v = f := by simpa using hv
      exact ⟨hf, set_same (by rw [h.w]; omega)⟩
  · rw [List.nodup_append]
    refine ⟨h.nd, by simp, fun a ha b hb => ?_⟩
    obtain rfl : b = f := by simpa using hb
    intro e
    subst e
    exact hfq ha

theorem WF.relax {n u : Nat} {l : Lk} {x y : St} (h : WF n x) (hu : u < n) (hl : okLk n l = true) (hr : relax n u l x = some y) : WF n y := by
  obtain ⟨f0, f1, _, _, _, m0, _⟩ := okLk_spec hl
  unfold Ch.relax at hr
  split at hr
  · cases hr; exact h
  · rename_i h1
    split at hr
    · cases hr
    · rename_i h2
      have hlow := h.lower hu (show l.f.toNat < n by omega) m0 (by omega) h2
      split at hr
      · cases hr; exact hlow
      · rename_i h3
        cases hr
        exact hlow.put (show l.f.toNat < n by omega) (by simpa using h3)

theorem relaxAll_snoc {n u : Nat} {l : Lk} : ∀ {ls : List Lk} {x : St}, relaxAll n u (ls ++ [l]) x = (relaxAll n u ls x).bind fun y => relax n u l y
  | [], x => by
    cases hk : relax n u l x <;> simp [relaxAll, hk]
  | k :: ls, x => by
    rw [List.cons_append, relaxAll, relaxAll]
    cases relax n u k x with
    | none => rfl
    | some y => exact relaxAll_snoc
theorem relaxAll_none {n u : Nat} {ls rest : List Lk} {x : St} (h : relaxAll n u ls x = none) : relaxAll n u (ls ++ rest) x = none := by
  induction ls generalizing x with
  | nil => cases h
  | cons k ls ih =>
    rw [List.cons_append, relaxAll]
    rw [relaxAll] at h
    cases hk : relax n u k x with
    | none => rfl
    | some y => rw [hk] at h; exact ih h

/-- how settle begins, the first k nodes looked at -/
def start0 (s : List Int) (k : Nat) : St :=
  ⟨s, (List.range 60).map fun v => decide (v < k) && s.getD v 0 != free, List.replicate 60 0, (List.range k).filter fun v => s.getD v 0 != free⟩
theorem start0_all (s : List Int) : start0 s s.length = settle0 s := rfl
theorem w_at {g : Nat → Bool} {i : Nat} (h : i < 60) : ((List.range 60).map g).getD i false = g i := by
  rw [List.getD, List.getElem?_map, List.getElem?_range h]; rfl
theorem dlt {v k : Nat} (h : v ≠ k) : decide (v < k + 1) = decide (v < k) := by
  by_cases h2 : v < k
  · rw [decide_eq_true h2, decide_eq_true (by omega)]
  · rw [decide_eq_false h2, decide_eq_false (by omega)]
theorem start0_hit {s : List Int} {k : Nat} (h : s.getD k 0 ≠ free) : start0 s (k + 1) = { start0 s k with w := (start0 s k).w.set k true, q := (start0 s k).q ++ [k] } := by
  unfold start0
  have h1 : (s.getD k 0 != free) = true := by rw [bne_iff_ne]; exact h
  congr 1
  · refine List.ext_getElem (by simp) (fun i h2 h3 => ?_)
    simp only [List.length_map, List.length_range] at h2
    by_cases e : k = i
    · subst e; simp; simpa using h
    · rw [List.getElem_set_ne e]
      simp only [List.getElem_map, List.getElem_range]
      rw [dlt (Ne.symm e)]
  · rw [List.range_succ, List.filter_append, List.filter_cons, h1]
    simp
theorem start0_miss {s : List Int} {k : Nat} (h : s.getD k 0 = free) : start0 s (k + 1) = start0 s k := by
  unfold start0
  have h1 : (s.getD k 0 != free) = false := by rw [h]; simp
  congr 1
  · refine List.map_congr_left (fun v _ => ?_)
    by_cases e : v = k
    · subst e; simp; simpa using h
    · rw [dlt e]
  · rw [List.range_succ, List.filter_append, List.filter_cons, h1]
    simp
theorem start0_wf {n : Nat} {s : List Int} (h1 : 1 ≤ n) (h2 : n ≤ 60) (hs : s.length = n) (hb : ∀ i, i < n → 0 ≤ s.getD i 0 ∧ s.getD i 0 ≤ 1152921504606846976) (k : Nat) (hk : k ≤ n) : WF n (start0 s k) := by
  have hc : ∀ i, (List.replicate 60 (0 : Int)).getD i 0 = 0 := fun i => by
    rw [List.getD, List.getElem?_replicate]
    split <;> rfl
  refine ⟨h1, h2, hs, by simp [start0], by simp [start0], fun u hu => ?_, ?_, fun i hi => ?_, fun i hi => (hb i hi).2, fun i hi => ?_⟩
  · unfold start0 at hu ⊢
    simp only [List.mem_filter, List.mem_range] at hu
    refine ⟨by omega, ?_⟩
    show ((List.range 60).map fun v => decide (v < k) && s.getD v 0 != free).getD u false = true
    rw [w_at (by omega), decide_eq_true hu.1, hu.2]; rfl
  · exact List.nodup_range.filter _
  · show 0 ≤ (List.replicate 60 (0 : Int)).getD i 0 ∧ (List.replicate 60 (0 : Int)).getD i 0 < (n : Int)
    rw [hc]; omega
  · show -4503599627370496 * (List.replicate 60 (0 : Int)).getD i 0 ≤ s.getD i 0
    rw [hc]; have := (hb i hi).1; omega
end Ch

/- What settle holds: its side in memory. -/
namespace Go.Proofs.YtemacokojdeimaaGreatDoor
open Go.RowKit

/-- settle's memory: B is where its own blocks begin; sb the block of the sums -/
structure SS (w : World) (B sb N n cap gb : Nat) (x : Ch.St) (go : Option Nat) (rs : List Nat) (W : World) : Prop where
  hB : w.heap.size = B
  hsb : sb < B
  hN : n ≤ N
  b0 : W.rowIs B 67 1 (fun _ => .pointer (some ⟨gb, 0, none⟩))
  b1 : W.rowIs (B + 1) 41 1 (fun _ => .slice (some ⟨sb, 0, none⟩) n cap)
  b2 : W.rowIs (B + 2) 4 1 (fun _ => .bool false)
  q : QAt W (B + 3) go (x.q.map fun u : Nat => (u : Int))
  qg : ∀ g, go = some g → B + 6 ≤ g
  wt : W.rowIs (B + 4) 121 60 (fun i => .bool (x.w.getD i false))
  ct : W.rowIs (B + 5) 122 60 (fun i => .int .i64 (x.c.getD i 0))
  sm : ∃ f, W.rowIs sb 3 N f ∧ ∀ i, i < n → f i = .int .i64 (x.s.getD i 0)
  mks : ∀ r ∈ rs, B + 6 ≤ r ∧ W.heap[r]? = some (.deferred (some []))
  bt : But (fun k => k = sb) w W

variable {w W W' : World} {B sb N n cap gb : Nat} {x : Ch.St} {go : Option Nat} {rs : List Nat}

theorem SS.below (h : SS w B sb N n cap gb x go rs W) (hb : Below W.heap.size W W') : SS w B sb N n cap gb x go rs W' := by
  obtain ⟨f, s1, s2⟩ := h.sm
  exact ⟨h.hB, h.hsb, h.hN, Below.row hb h.b0, Below.row hb h.b1, Below.row hb h.b2, h.q.but (.of_below (T := fun _ => False) hb) id (fun _ _ => id), h.qg, Below.row hb h.wt, Below.row hb h.ct, ⟨f, Below.row hb s1, s2⟩,
    fun r hr => ⟨(h.mks r hr).1, (hb.block r (Array.getElem?_eq_some_iff.1 (h.mks r hr).2).1).trans (h.mks r hr).2⟩, h.bt.trans (.of_below hb)⟩

/-- a store into the row of those who wait -/
theorem SS.wait (h : SS w B sb N n cap gb x go rs W) (hw : x.w.length = 60) {v : Nat} (hv : v < 60) (t : Bool) : SS w B sb N n cap gb { x with w := x.w.set v t } go rs (W.setCell ⟨B + 4, v, none⟩ (.bool t)) := by
  obtain ⟨f, s1, s2⟩ := h.sm
  have hB := h.hsb
  refine ⟨h.hB, h.hsb, h.hN, h.b0.setOther (by simp) _, h.b1.setOther (by simp) _, h.b2.setOther (by simp) _, ?_, h.qg, ?_, h.ct.setOther (by simp) _, ⟨f, s1.setOther (by simp; omega) _, s2⟩, fun r hr => ⟨(h.mks r hr).1, ?_⟩, h.bt.setCell (.inl (by rw [h.hB]; simp)) _⟩
  · exact h.q.but ((But.refl (fun k => k = B + 4) W).setCell (p := ⟨B + 4, v, none⟩) (.inr rfl) _) (by omega) (fun g hg e => by have := h.qg g hg; omega)
  · refine (h.wt.set v (.bool t)).congr (fun i hi => ?_)
    by_cases e : i = v
    · subst e; rw [if_pos rfl]; show _ = Value.bool ((x.w.set i t).getD i false); rw [Ch.set_same (by omega)]
    · rw [if_neg e]; show _ = Value.bool ((x.w.set v t).getD i false); rw [Ch.set_other (Ne.symm e)]
  · rw [Below.heap_setCell _ _ _ _ (by have := (h.mks r hr).1; simp; omega)]
    exact (h.mks r hr).2

/-- a store into the row of links -/
theorem SS.cnt (h : SS w B sb N n cap gb x go rs W) (hc : x.c.length = 60) {v : Nat} (hv : v < 60) (z : Int) : SS w B sb N n cap gb { x with c := x.c.set v z } go rs (W.setCell ⟨B + 5, v, none⟩ (.int .i64 z)) := by
  obtain ⟨f, s1, s2⟩ := h.sm
  have hB := h.hsb
  refine ⟨h.hB, h.hsb, h.hN, h.b0.setOther (by simp) _, h.b1.setOther (by simp) _, h.b2.setOther (by simp) _, ?_, h.qg, h.wt.setOther (by simp) _, ?_, ⟨f, s1.setOther (by simp; omega) _, s2⟩, fun r hr => ⟨(h.mks r hr).1, ?_⟩, h.bt.setCell (.inl (by rw [h.hB]; simp)) _⟩
  · exact h.q.but ((But.refl (fun k => k = B + 5) W).setCell (p := ⟨B + 5, v, none⟩) (.inr rfl) _) (by omega) (fun g hg e => by have := h.qg g hg; omega)
  · refine (h.ct.set v (.int .i64 z)).congr (fun i hi => ?_)
    by_cases e : i = v
    · subst e; rw [if_pos rfl]; show _ = Value.int .i64 ((x.c.set i z).getD i 0); rw [Ch.set_same (by omega)]
    · rw [if_neg e]; show _ = Value.int .i64 ((x.c.set v z).getD i 0); rw [Ch.set_other (Ne.symm e)]
  · rw [Below.heap_setCell _ _ _ _ (by have := (h.mks r hr).1; simp; omega)]
    exact (h.mks r hr).2

/-- a store into the row of sums -/
theorem SS.sum (h : SS w B sb N n cap gb x go rs W) (hs : x.s.length = n) {v : Nat} (hv : v < n) (z : Int) : SS w B sb N n cap gb { x with s := x.s.set v z } go rs (W.setCell ⟨sb, v, none⟩ (.int .i64 z)) := by
  obtain ⟨f, s1, s2⟩ := h.sm
  have hB := h.hsb
  have hN := h.hN
  refine ⟨h.hB, h.hsb, h.hN, h.b0.setOther (by simp; omega) _, h.b1.setOther (by simp; omega) _, h.b2.setOther (by simp; omega) _, ?_, h.qg, h.wt.setOther (by simp; omega) _, h.ct.setOther (by simp; omega) _, ⟨_, s1.set v (.int .i64 z), fun i hi => ?_⟩, fun r hr => ⟨(h.mks r hr).1, ?_⟩, h.bt.setCell (.inr rfl) _⟩
  · exact h.q.but ((But.refl (fun k => k = sb) W).setCell (p := ⟨sb, v, none⟩) (.inr rfl) _) (by omega) (fun g hg e => by have := h.qg g hg; omega)
  · by_cases e : i = v
    · subst e; rw [if_pos rfl]; show _ = Value.int .i64 ((x.s.set i z).getD i 0); rw [Ch.set_same (by omega)]
    · rw [if_neg e, s2 i hi]; show _ = Value.int .i64 ((x.s.set v z).getD i 0); rw [Ch.set_other (Ne.symm e)]
  · rw [Below.heap_setCell _ _ _ _ (by have := (h.mks r hr).1; simp; omega)]
    exact (h.mks r hr).2

/-- behind take and put -/
theorem SS.queue (h : SS w B sb N n cap gb x go rs W) {go' : Option Nat} {q : List Nat} (hq : QAt W' (B + 3) go' (q.map fun u : Nat => (u : Int))) (hb : But (fun k => k = B + 3 ∨ go = some k) W W') (hg : go' = go ∨ ∃ g, go' = some g ∧ W.heap.size ≤ g ∧ g < W'.heap.size) :
    SS w B sb N n cap gb { x with q := q } go' rs W' := by
  obtain ⟨f, s1, s2⟩ := h.sm
  have hB := h.hsb
  have hz := h.ct.lt
  have ngo : ∀ k, k < B + 6 → go ≠ some k := fun k hk e => by have := h.qg k e; omega
  have far : ∀ k, k < B + 6 → k ≠ B + 3 → ¬ (k = B + 3 ∨ go = some k) := fun k hk h3 e => e.elim h3 (ngo k hk)
  refine ⟨h.hB, h.hsb, h.hN, hb.row h.b0 (far _ (by omega) (by omega)), hb.row h.b1 (far _ (by omega) (by omega)), hb.row h.b2 (far _ (by omega) (by omega)), hq, fun g e => ?_, hb.row h.wt (far _ (by omega) (by omega)), hb.row h.ct (far _ (by omega) (by omega)), ⟨f, hb.row s1 (far _ (by omega) (by omega)), s2⟩, fun r hr => ⟨(h.mks r hr).1, ?_⟩, ?_⟩
  · rcases hg with hg | ⟨g', hg, h1, _⟩
    · exact h.qg g (by rw [← hg]; exact e)
    · rw [hg] at e
      obtain rfl := Option.some.inj e
      omega
  · have h2 := (h.mks r hr).2
    have h1 := (h.mks r hr).1
    refine (hb.block r (Array.getElem?_eq_some_iff.1 h2).1 ?_).trans h2
    rintro (e | e)
    · omega
    · obtain ⟨a, cp, _, _, hr2⟩ := h.q
      rcases hr2 with ⟨_, _, h3⟩ | ⟨g, off, M, f2, _, h3, _, h4, _⟩
      · rw [h3] at e; cases e
      · rw [h3] at e
        obtain rfl := Option.some.inj e
        obtain ⟨_, h5, _⟩ := h4
        rw [h2] at h5
        simp at h5
  · refine ⟨hb.os.trans h.bt.os, hb.tape.trans h.bt.tape, hb.output.trans h.bt.output, Nat.le_trans h.bt.size hb.size, fun k hk hn => ?_⟩
    have hk2 := h.hB
    exact (hb.block k (Nat.lt_of_lt_of_le hk h.bt.size) (far k (by omega) (by omega))).trans (h.bt.block k hk hn)

/-- a graph that lies below the block H -/
structure Gr (w : World) (H gb ib db n m : Nat) (a : Option Addr) (cap : Nat) (V : Nat → Value) (L : List Ch.Lk) (D : Nat → Bool) : Prop where
  hm : L.length = m
  m3 : m ≤ 300
  ok : ∀ j, j < L.length → Ch.okLk n (L.getD j Ch.noLk) = true
  g : w.rowIs gb 78 4 (gF n a m cap ib db)
  i : w.rowIs ib 41 n V
  d : w.rowIs db 4 m (fun k => .bool (D k))
  v : ∀ u, u < n → ∃ av cr, V u = .slice av (Ch.into L u).length cr ∧ ∀ k, k < (Ch.into L u).length → ∃ x, av = some x ∧ x.block < H ∧ w.cell? (x.add k) = some (.int .i64 (((Ch.into L u).getD k 0 : Nat) : Int))
  l : ∀ k, k < L.length → ∃ x, a = some x ∧ x.block < H ∧ LkAt w (x.add (k * 3)) (L.getD k Ch.noLk)
  hg : gb < H
  hi : ib < H
  hd : db < H
  hH : H ≤ w.heap.size

theorem Gr.below {w W : World} {H gb ib db n m : Nat} {a : Option Addr} {cap : Nat} {V : Nat → Value} {L : List Ch.Lk} {D : Nat → Bool} (h : Gr w H gb ib db n m a cap V L D) (hb : Below H w W) : Gr W H gb ib db n m a cap V L D := by
  have hc : ∀ {p : Addr} {x : Value}, p.block < H → w.cell? p = some x → W.cell? p = some x := fun hp hx => (hb.cell hp).trans hx
  refine ⟨h.hm, h.m3, h.ok, h.g.of_block (hb.block gb h.hg), h.i.of_block (hb.block ib h.hi), h.d.of_block (hb.block db h.hd), fun u hu => ?_, fun k hk => ?_, h.hg, h.hi, h.hd, Nat.le_trans h.hH hb.size⟩
  · obtain ⟨av, cr, h1, h2⟩ := h.v u hu
    exact ⟨av, cr, h1, fun k hk => by
      obtain ⟨x, hx, hlt, hcx⟩ := h2 k hk
      exact ⟨x, hx, hlt, hc (p := x.add k) (by unfold Addr.add; split <;> exact hlt) hcx⟩⟩
  · obtain ⟨x, hx, hlt, h1, h2, h3⟩ := h.l k hk
    have e : (x.add (k * 3)).block = x.block := by unfold Addr.add; split <;> rfl
    exact ⟨x, hx, hlt, hc (by rw [e]; exact hlt) h1, hc (p := ⟨(x.add (k * 3)).block, _, none⟩) (by show (x.add (k * 3)).block < H; rw [e]; exact hlt) h2, hc (p := ⟨(x.add (k * 3)).block, _, none⟩) (by show (x.add (k * 3)).block < H; rw [e]; exact hlt) h3⟩

theorem into_lt {L : List Ch.Lk} {u k : Nat} (hk : k < (Ch.into L u).length) : (Ch.into L u).getD k 0 < L.length := by
  have h : (Ch.into L u).getD k 0 ∈ Ch.into L u := by rw [List.getD, List.getElem?_eq_getElem hk]; exact List.getElem_mem hk
  unfold Ch.into at h
  simp only [List.mem_filter, List.mem_range] at h
  exact h.1
theorem into_len (L : List Ch.Lk) (u : Nat) : (Ch.into L u).length ≤ L.length := by rw [← Ch.intoK_all]; exact Ch.intoK_len L _ u

/-- what the iterator over the links into a node reads -/
theorem Gr.lk {W : World} {H gb ib db n m : Nat} {a : Option Addr} {cap : Nat} {V : Nat → Value} {L : List Ch.Lk} {D : Nat → Bool} (h : Gr W H gb ib db n m a cap V L D) {u b2 b3 : Nat} (hu : u < n) {av : Option Addr} {cr : Nat} (hV : V u = .slice av (Ch.into L u).length cr)
    (h2 : W.cell? ⟨b2, 0, none⟩ = some (.pointer (some ⟨gb, 0, none⟩))) (h3 : W.cell? ⟨b3, 0, none⟩ = some (.int .i64 (u : Int))) : LK b2 b3 gb ib db n m u a av cap cr (Ch.into L u) L D W := by
  refine ⟨h2, h3, h.g.cell (i := 1) (by omega), h.g.cell (i := 2) (by omega), h.g.cell (i := 3) (by omega), ?_, fun k hk => ?_, fun k hk => ?_, fun k hk => ?_⟩
  · rw [← hV]; exact h.i.cell hu
  · obtain ⟨av', cr', h1, h4⟩ := h.v u hu
    rw [hV] at h1
    simp only [Value.slice.injEq] at h1
    obtain ⟨rfl, _, rfl⟩ := h1
    obtain ⟨x, hx, _, hc⟩ := h4 k hk
    exact ⟨x, hx, hc⟩
  · exact h.d.cell (by have := into_lt hk; have := h.hm; omega)
  · obtain ⟨x, hx, _, hc⟩ := h.l _ (into_lt hk)
    exact ⟨x, hx, hc⟩

/-- the links that are handed out are those of the mirror -/
theorem outs_into (L : List Ch.Lk) (drop : List Bool) (u : Nat) : outs (Ch.into L u) L (fun i => drop.getD i false) = Ch.linksInto L drop u := rfl
end Go.Proofs.YtemacokojdeimaaGreatDoor

/- How package chain's settle leaves. -/
namespace Go.Proofs.YtemacokojdeimaaGreatDoor
open Go.RowKit

/-- what settle leaves -/
def SetPost (w : World) (sb N n : Nat) (R : Option (List Int)) (e : Ending) (w' : World) : Prop :=
  But (fun k => k = sb) w w' ∧ match R with
    | none => e = .returned (.bool false)
    | some s => e = .returned (.bool true) ∧ ∃ f, w'.rowIs sb 3 N f ∧ ∀ i, i < n → f i = .int .i64 (s.getD i 0)

/-- the world in which settle leaves -/
structure Fin (w : World) (sb N n : Nat) (s : List Int) (rs : List Nat) (t : Bool) (X : World) : Prop where
  b2 : X.rowIs (w.heap.size + 2) 4 1 (fun _ => .bool t)
  sm : ∃ f, X.rowIs sb 3 N f ∧ ∀ i, i < n → f i = .int .i64 (s.getD i 0)
  mks : ∀ r ∈ rs, w.heap.size + 6 ≤ r ∧ X.heap[r]? = some (.deferred (some []))
  bt : But (fun k => k = sb) w X
  hsb : sb < w.heap.size

theorem SS.fin {w W : World} {sb N n cap gb : Nat} {x : Ch.St} {go : Option Nat} {rs : List Nat} (h : SS w w.heap.size sb N n cap gb x go rs W) (t : Bool) (o : Obj) : Fin w sb N n x.s rs t ((W.setCell ⟨w.heap.size + 2, 0, none⟩ (.bool t)).alloc o) := by
  obtain ⟨f, s1, s2⟩ := h.sm
  have hB := h.hsb
  refine ⟨((h.b2.set 0 (.bool t)).congr (fun i hi => if_pos (by omega))).alloc o, ⟨f, (s1.setOther (a := ⟨w.heap.size + 2, 0, none⟩) (by simp; omega) _).alloc o, s2⟩, fun r hr => ⟨(h.mks r hr).1, ?_⟩, (h.bt.setCell (p := ⟨w.heap.size + 2, 0, none⟩) (.inl (by simp)) _).alloc o, hB⟩
  have h2 := (h.mks r hr).2
  have h1 := (h.mks r hr).1
  rw [Below.heap_alloc _ _ _ (by have := (Array.getElem?_eq_some_iff.1 h2).1; simpa using this), Below.heap_setCell _ _ _ _ (by simp; omega)]
  exact h2

theorem settle_end {w X : World} {sb N n : Nat} {s : List Int} {rs : List Nat} {tmps : Array Value} (h : Fin w sb N n s rs true X) (hn : rs.Nodup) (ht : tmps.getD 4 undef = .pointer (some ⟨w.heap.size + 2, 0, none⟩)) :
    LeavesInM Fence.wide 7 Tryz.prog Tryz.f58 tmps (SetPost w sb N n (some s)) (marks rs) .returning X := by
  refine leaves_marks rs X hn (fun r hr => (h.mks r hr).2) ?_
  have fb := freed_but rs X
  have nr : ∀ k, k < w.heap.size + 6 → ¬ k ∈ rs := fun k hk hm => by have := (h.mks k hm).1; omega
  have c2 : (freed rs X).cell? ⟨w.heap.size + 2, 0, none⟩ = some (.bool true) := (fb.row h.b2 (nr _ (by omega))).cell (i := 0) (by omega)
  obtain ⟨f, s1, s2⟩ := h.sm
  have hsb := h.hsb
  have ht2 : tmps[4]?.getD undef = .pointer (some ⟨w.heap.size + 2, 0, none⟩) := by rw [← ht]; simp
  refine ⟨.bool true, by simp [results, Tryz.results58, go_sem, ht2, c2], ?_, rfl, f, fb.row s1 (nr _ (by omega)), s2⟩
  exact ⟨fb.os.trans h.bt.os, fb.tape.trans h.bt.tape, fb.output.trans h.bt.output, Nat.le_trans h.bt.size fb.size, fun k hk hne => (fb.block k (Nat.lt_of_lt_of_le hk h.bt.size) (nr _ (by omega))).trans (h.bt.block k hk hne)⟩
theorem settle_end_no {w X : World} {sb N n : Nat} {s : List Int} {rs : List Nat} {tmps : Array Value} (h : Fin w sb N n s rs false X) (hn : rs.Nodup) (ht : tmps.getD 4 undef = .pointer (some ⟨w.heap.size + 2, 0, none⟩)) :
    LeavesInM Fence.wide 7 Tryz.prog Tryz.f58 tmps (SetPost w sb N n none) (marks rs) .returning X := by
  refine leaves_marks rs X hn (fun r hr => (h.mks r hr).2) ?_
  have fb := freed_but rs X
  have nr : ∀ k, k < w.heap.size + 6 → ¬ k ∈ rs := fun k hk hm => by have := (h.mks k hm).1; omega
  have c2 : (freed rs X).cell? ⟨w.heap.size + 2, 0, none⟩ = some (.bool false) := (fb.row h.b2 (nr _ (by omega))).cell (i := 0) (by omega)
  have hsb := h.hsb
  have ht2 : tmps[4]?.getD undef = .pointer (some ⟨w.heap.size + 2, 0, none⟩) := by rw [← ht]; simp
  refine ⟨.bool false, by simp [results, Tryz.results58, go_sem, ht2, c2], ?_, rfl⟩
  exact ⟨fb.os.trans h.bt.os, fb.tape.trans h.bt.tape, fb.output.trans h.bt.output, Nat.le_trans h.bt.size fb.size, fun k hk hne => (fb.block k (Nat.lt_of_lt_of_le hk h.bt.size) (nr _ (by omega))).trans (h.bt.block k hk hne)⟩
end Go.Proofs.YtemacokojdeimaaGreatDoor

/- What settle's loop over the links into a node keeps. -/
namespace Go.Proofs.YtemacokojdeimaaGreatDoor
open Go.RowKit

theorem SS.but {w W W' : World} {B sb N n cap gb : Nat} {x : Ch.St} {go : Option Nat} {rs : List Nat} {T : Nat → Prop} (h : SS w B sb N n cap gb x go rs W) (hb : But T W W') (h6 : ∀ k, k < B + 6 → ¬ T k) (hg : ∀ g, go = some g → ¬ T g) (hm : ∀ r ∈ rs, ¬ T r) : SS w B sb N n cap gb x go rs W' := by
  obtain ⟨f, s1, s2⟩ := h.sm
  have hB := h.hsb
  have hw := h.hB
  refine ⟨h.hB, h.hsb, h.hN, hb.row h.b0 (h6 _ (by omega)), hb.row h.b1 (h6 _ (by omega)), hb.row h.b2 (h6 _ (by omega)), h.q.but hb (h6 _ (by omega)) hg, h.qg, hb.row h.wt (h6 _ (by omega)), hb.row h.ct (h6 _ (by omega)), ⟨f, hb.row s1 (h6 _ (by omega)), s2⟩,
    fun r hr => ⟨(h.mks r hr).1, (hb.block r (Array.getElem?_eq_some_iff.1 (h.mks r hr).2).1 (hm r hr)).trans (h.mks r hr).2⟩, ?_⟩
  exact ⟨hb.os.trans h.bt.os, hb.tape.trans h.bt.tape, hb.output.trans h.bt.output, Nat.le_trans h.bt.size hb.size, fun k hk hn => (hb.block k (Nat.lt_of_lt_of_le hk h.bt.size) (h6 k (by omega))).trans (h.bt.block k hk hn)⟩

theorem but_grown {W W' : World} {row : Option Nat} (h : W.grownBy W' row) : But (fun k => row = some k) W W' := ⟨h.os, h.tape, h.output, h.size, fun k hk hn => h.block k hk (fun e => hn e.symm)⟩

/-- the row behind the queue holds cells -/
theorem SS.go_cells {w W : World} {B sb N n cap gb : Nat} {x : Ch.St} {go : Option Nat} {rs : List Nat} (h : SS w B sb N n cap gb x go rs W) {g : Nat} (hg : go = some g) : ∃ M f, W.rowIs g 3 M f := by
  obtain ⟨a, cp, _, _, hr⟩ := h.q
  rcases hr with ⟨_, _, h3⟩ | ⟨g', off, M, f, _, h3, _, h4, _⟩
  · rw [h3] at hg; cases hg
  · rw [h3] at hg
    obtain rfl := Option.some.inj hg
    exact ⟨M, f, h4⟩

/-- the invariant of the loop: the links that were handed out have been looked at -/
def RI (w : World) (S sb N n cap gb u nb b2 b3 : Nat) (x1 : Ch.St) (rs : List Nat) (pre : List Ch.Lk) (W : World) : Prop :=
  ∃ y go, Ch.relaxAll n u pre x1 = some y ∧ Ch.WF n y ∧ SS w w.heap.size sb N n cap gb y go rs W ∧ W.cell? ⟨nb, 0, none⟩ = some (.int .i64 (u : Int)) ∧ W.cell? ⟨b2, 0, none⟩ = some (.pointer (some ⟨gb, 0, none⟩)) ∧ W.cell? ⟨b3, 0, none⟩ = some (.int .i64 (u : Int)) ∧
    (∀ g, go = some g → g ≠ nb ∧ g ≠ b2 ∧ g ≠ b3) ∧ (∀ r ∈ rs, r < S) ∧ w.heap.size + 6 ≤ S
/-- .. and where it gave up -/
def RX (w : World) (S sb N n u : Nat) (x1 : Ch.St) (rs : List Nat) (pre : List Ch.Lk) (W : World) : Prop :=
  Ch.relaxAll n u pre x1 = none ∧ (∃ s, Fin w sb N n s rs false W) ∧ (∀ r ∈ rs, r < S) ∧ w.heap.size + 6 ≤ S

theorem cell_grown {W W' : World} {row : Option Nat} {p : Addr} {x : Value} (hg : W.grownBy W' row) (hr : ∀ r, row = some r → ∃ o : Obj, W.heap[r]? = some o ∧ o.isCells = false) (h : W.cell? p = some x) : W'.cell? p = some x := by
  refine (but_grown hg).kept h (fun e => ?_)
  obtain ⟨o, ho, hc⟩ := hr _ e
  unfold World.cell? at h
  rw [ho] at h
  cases o <;> simp [Obj.isCells] at hc h
theorem row_grown {W W' : World} {row : Option Nat} {b : Nat} {t : TypeId} {n : Nat} {f : Nat → Value} (hg : W.grownBy W' row) (hr : ∀ r, row = some r → ∃ o : Obj, W.heap[r]? = some o ∧ o.isCells = false) (h : W.rowIs b t n f) : W'.rowIs b t n f := by
  refine (but_grown hg).row h (fun e => ?_)
  obtain ⟨o, ho, hc⟩ := hr _ e
  obtain ⟨_, h1, _⟩ := h
  rw [ho] at h1
  obtain rfl := Option.some.inj h1
  simp [Obj.isCells] at hc

theorem ri_own (w : World) (S sb N n cap gb u nb b2 b3 : Nat) (x1 : Ch.St) (rs : List Nat) : OwnFrom S (RI w S sb N n cap gb u nb b2 b3 x1 rs) := by
  intro pre W W' row ⟨y, go, h1, h2, h3, h4, h5, h6, h7, h8, h9⟩ hg hr
  have hr2 : ∀ r, row = some r → ∃ o : Obj, W.heap[r]? = some o ∧ o.isCells = false := fun r e => (hr r e).2
  refine ⟨y, go, h1, h2, h3.but (but_grown hg) (fun k hk e => by have := (hr k e).1; omega) (fun g e1 e2 => ?_) (fun r hm e => by have := (hr r e).1; have := h8 r hm; omega), cell_grown hg hr2 h4, cell_grown hg hr2 h5, cell_grown hg hr2 h6, h7, h8, h9⟩
  obtain ⟨M, f, hrow⟩ := h3.go_cells e1
  obtain ⟨o, ho, hc⟩ := hr2 g e2
  obtain ⟨_, h10, _⟩ := hrow
  rw [ho] at h10
  obtain rfl := Option.some.inj h10
  simp [Obj.isCells] at hc

theorem rx_own (w : World) (S sb N n u : Nat) (x1 : Ch.St) (rs : List Nat) : OwnFrom S (RX w S sb N n u x1 rs) := by
  intro pre W W' row ⟨h1, ⟨s, hf⟩, h8, h9⟩ hg hr
  have hr2 : ∀ r, row = some r → ∃ o : Obj, W.heap[r]? = some o ∧ o.isCells = false := fun r e => (hr r e).2
  obtain ⟨f, s1, s2⟩ := hf.sm
  have hb := but_grown hg
  refine ⟨h1, ⟨s, row_grown hg hr2 hf.b2, ⟨f, row_grown hg hr2 s1, s2⟩, fun r hm => ⟨(hf.mks r hm).1, ?_⟩, ?_, hf.hsb⟩, h8, h9⟩
  · exact (hb.block r (Array.getElem?_eq_some_iff.1 (hf.mks r hm).2).1 (fun e => by have := (hr r e).1; have := h8 r hm; omega)).trans (hf.mks r hm).2
  · exact ⟨hb.os.trans hf.bt.os, hb.tape.trans hf.bt.tape, hb.output.trans hf.bt.output, Nat.le_trans hf.bt.size hb.size, fun k hk hn => (hb.block k (Nat.lt_of_lt_of_le hk hf.bt.size) (fun e => by have := (hr k e).1; omega)).trans (hf.bt.block k hk hn)⟩

/-- a mark more -/
theorem SS.mark {w W : World} {B sb N n cap gb : Nat} {x : Ch.St} {go : Option Nat} {rs : List Nat} (h : SS w B sb N n cap gb x go rs W) {E : Nat} (hE : B + 6 ≤ E) (hD : W.heap[E]? = some (.deferred (some []))) : SS w B sb N n cap gb x go (E :: rs) W :=
  ⟨h.hB, h.hsb, h.hN, h.b0, h.b1, h.b2, h.q, h.qg, h.wt, h.ct, h.sm, fun r hr => (List.mem_cons.1 hr).elim (fun e => e ▸ ⟨hE, hD⟩) (h.mks r), h.bt⟩
theorem Fin.mark {w W : World} {sb N n : Nat} {s : List Int} {rs : List Nat} {t : Bool} (h : Fin w sb N n s rs t W) {E : Nat} (hE : w.heap.size + 6 ≤ E) (hD : W.heap[E]? = some (.deferred (some []))) : Fin w sb N n s (E :: rs) t W :=
  ⟨h.b2, h.sm, fun r hr => (List.mem_cons.1 hr).elim (fun e => e ▸ ⟨hE, hD⟩) (h.mks r), h.bt, h.hsb⟩

theorem but_putObj {A : World} (l : Nat) (o : Obj) : But (fun k => k = l) A (A.putObj l o) := ⟨rfl, rfl, rfl, by simp [World.putObj], fun _ _ hn => World.putObj_heap_other hn⟩

/-- a link that is handed out is one of the system's -/
theorem outs_mem {L : List Ch.Lk} {u : Nat} {D : Nat → Bool} {pre : List Ch.Lk} {x : Ch.Lk} (h : pre ++ [x] <+: outs (Ch.into L u) L D) : ∃ i, i < L.length ∧ x = L.getD i Ch.noLk ∧ x.t = (u : Int) := by
  have hm : x ∈ outs (Ch.into L u) L D := h.subset (by simp)
  unfold outs at hm
  obtain ⟨i, hi, rfl⟩ := List.mem_map.1 hm
  have h2 := (List.mem_filter.1 hi).1
  unfold Ch.into at h2
  have h3 := List.mem_filter.1 h2
  exact ⟨i, List.mem_range.1 h3.1, rfl, by simpa using h3.2⟩
end Go.Proofs.YtemacokojdeimaaGreatDoor
