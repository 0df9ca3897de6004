/- What the claims of layer 2 share, part 8: several texts one behind the other. -/
import Derived.RegionIn
import Derived.LoopIn
import Derived.LoopNIn
import Derived.OwnWalkIn
import Derived.RangeFuncBound
import Derived.RangeFuncCalls
import Derived.RangeFuncGives
import Derived.RangeFuncLeaves
import Derived.Maps.OwnIn
import Derived.Sort.LoopGhostIn
import Derived.Sort.QuietIn
import Derived.Sort.CutIn
import Derived.Test.YtmkjmpkicmadcaaDoorZ07
set_option linter.unusedSimpArgs false
set_option linter.unusedVariables false
/- slices.Backward of signs. -/
namespace Go.Proofs.YtmkjmpkicmadcaaDoor
open Go.RowKit
attribute [local go_sem] Oper.semAt_some

theorem backwardS_any (a : Option Addr) (m cap : Nat) (w : World) :
    Calls Tryd.prog 60 #[.slice a m cap] w fun e w' => e = .returned (.func (.func 75) #[] #[.pointer (some ⟨w.heap.size, 0, none⟩)]) ∧ w' = w.alloc (.cells #[.slice a m cap] 57) := by
  have hmf : ∀ (fn : Fn) (first cap : Array Value) (w : World), (Instr.makeFunc fn first cap).run Tryd.prog w = .ok (.func fn first cap) w := fun _ _ _ _ => rfl
  go_enter Tryd.func60, Tryd.ntmps60
  go_wp2
  go_ret
  exact ⟨rfl, rfl⟩

/-- what Backward hands out: the last c signs with their indices, the last one first -/
def bs (L : List (Nat × Bool)) (c : Nat) : List (Nat × (Nat × Bool)) := (List.range c).map fun j => (L.length - 1 - j, L.getD (L.length - 1 - j) (0, false))
theorem bs_next (L : List (Nat × Bool)) (c : Nat) : bs L (c + 1) = bs L c ++ [(L.length - 1 - c, L.getD (L.length - 1 - c) (0, false))] := by
  unfold bs
  rw [List.range_succ, List.map_append]
  rfl
theorem bs_len (L : List (Nat × Bool)) (c : Nat) : (bs L c).length = c := by unfold bs; simp
theorem bs_take (L : List (Nat × Bool)) {c : Nat} (h : c ≤ L.length) : bs L c = (bs L L.length).take c := by
  unfold bs
  rw [← List.map_take, List.take_range, Nat.min_eq_left h]
theorem bs_pre (L : List (Nat × Bool)) {c : Nat} (h : c ≤ L.length) : bs L c <+: bs L L.length := by
  rw [bs_take L h]; exact List.take_prefix _ _

/-- what the iterator reads -/
structure BS (bb m cap : Nat) (a : Option Addr) (L : List (Nat × Bool)) (W : World) : Prop where
  c : W.cell? ⟨bb, 0, none⟩ = some (.slice a m cap)
  l : SgsAt W a L
def sgV (g : Nat × Bool) : Value := .agg #[.int .i64 (g.1 : Int), .bool g.2]
def bsV (x : Nat × Nat × Bool) : Array Value := #[.int .i64 (x.1 : Int), sgV x.2]

set_option maxRecDepth 100000 in
set_option maxHeartbeats 2000000 in
theorem backwardS1_in (q : Nat) (hq : 2 ≤ q) (l bb m cap : Nat) (a : Option Addr) (L : List (Nat × Bool)) (hm : Hid (L.length = m)) (hm3 : m ≤ 300) (J Jx : List (Nat × (Nat × Bool)) → World → Prop)
    (hK : ∀ pre W, J pre W → BS bb m cap a L W)
    (hY : ∀ pre x W, J pre W → pre ++ [x] <+: bs L L.length → YieldAt Fence.wide (q - 1) Tryd.prog l (bsV x) W fun e W' =>
      (e = .returned (.bool true) ∧ J (pre ++ [x]) W' ∧ KeepsWalks W W') ∨ (e = .returned (.bool false) ∧ Jx (pre ++ [x]) W'))
    (W : World) (hA : AbidesFrom W.heap.size J) (h0 : J [] W) :
    CallsIn Fence.wide q Tryd.prog 75 #[.func (.yield l) #[] #[], .pointer (some ⟨bb, 0, none⟩)] W fun e W' => (∃ v, e = .returned v) ∧ (J (bs L L.length) W' ∨ ∃ pre, pre <+: bs L L.length ∧ Jx pre W') := by
  have hn1 : 1 ≤ q := by omega
  obtain ⟨e2, _⟩ := hK _ _ h0
  refine callsIn_of_wp Tryd.func75 rfl trivial ?_ rfl
  simp only [Tryd.ntmps75, List.size_toArray, List.length_cons, List.length_nil, Nat.reduceAdd, Nat.reduceSub, Array.replicate_succ, Array.replicate_zero, List.push_toArray, List.append_toArray, List.nil_append, List.cons_append]
  gi_wp2
  gi_loopw [3] (fun i wr => ∃ c : Nat, c ≤ m ∧ i = .int .i64 ((m : Int) - 1 - (c : Int)) ∧ J (bs L c) wr) (fun i _ => (RowKit.intOf i + 1).toNat)
  case atStart => exact ⟨0, Nat.zero_le _, by go_num, h0⟩
  case round =>
    obtain ⟨c, hc, rfl, hJs⟩ := hrel
    clear e2
    by_cases hlt : c < m
    · obtain ⟨k, hk⟩ : ∃ k : Nat, (m : Int) - 1 - (c : Int) = (k : Int) := ⟨m - 1 - c, by omega⟩
      rw [hk]
      obtain ⟨e2, hl⟩ := hK _ _ hJs
      have hk2 : k = L.length - 1 - c := by have := hm.out; omega
      obtain ⟨y, rfl, hl3⟩ := hl k (by have := hm.out; omega)
      have hnx := Lib.hid (bs_next L c)
      have hpre := Lib.hid (bs_pre L (c := c + 1) (by have := hm.out; omega))
      rw [← hk2] at hnx
      obtain ⟨f, t, hlk⟩ : ∃ f t, L.getD k (0, false) = (f, t) := ⟨_, _, rfl⟩
      have ⟨q0, q1⟩ := hl3
      rw [hlk] at q0 q1 hnx
      simp only at q0 q1
      have hp2 := hpre.out
      rw [hnx.out] at hp2
      obtain ⟨fn, tmps, assign, body, hy, hR⟩ := hY _ _ wr hJs hp2
      simp only [sgV, bsV] at hy
      have hi5 : (0 : Int) ≤ (k : Int) := by omega
      have hi6 : (k : Int) < (m : Int) := by omega
      replace hk := Lib.hid hk
      replace hk2 := Lib.hid hk2
      clear hl3 hl hY hlk hp2 h0 hA hK
      gi_wp2
      refine hR.mono ?_
      rintro e W3 (⟨rfl, hJ3, hk3⟩ | ⟨rfl, hJx3⟩)
      · gi_wp2
        go_roundw
        case rel => exact ⟨c + 1, by omega, by have := hk.out; go_num, by rw [hnx.out]; exact hJ3⟩
        case measure => (have := hk.out; first | (simp [RowKit.intOf]; done) | (simp [RowKit.intOf]; omega))
      · gi_wp2
        refine bodyPost_ret (results_none rfl _ _ _) rfl ?_
        exact ⟨⟨_, rfl⟩, .inr ⟨_, by have := hpre.out; rw [hnx.out] at this; exact this, hJx3⟩⟩
    · obtain rfl : c = m := by omega
      have hneg : ¬ (0 : Int) ≤ (c : Int) - 1 - (c : Int) := by omega
      gi_wp2
      go_end0
      refine ⟨⟨_, rfl⟩, .inl ?_⟩
      rw [hm.out]
      exact hJs

theorem backwardS_hands (q : Nat) (hq : 2 ≤ q) (bb m cap : Nat) (a : Option Addr) (L : List (Nat × Bool)) (hm : L.length = m) (hm3 : m ≤ 300) (w : World) :
    HandsV bsV q Tryd.prog 75 #[.pointer (some ⟨bb, 0, none⟩)] (bs L L.length) (BS bb m cap a L) w := fun l J Jx W _ hA hK hY h0 =>
  backwardS1_in q hq l bb m cap a L (Lib.hid hm) hm3 J Jx hK hY W hA h0
end Go.Proofs.YtmkjmpkicmadcaaDoor

/- Prove, mirrored, and what its loop over the signs keeps. -/
namespace Pl
variable {α : Type}
/-- what is left of a list behind c rounds of leaving out, from its end on -/
def prd (P : List α → Bool) (l : List α) : Nat → List α
  | 0 => l
  | c + 1 => if P ((prd P l c).eraseIdx (l.length - 1 - c)) then (prd P l c).eraseIdx (l.length - 1 - c) else prd P l c
theorem prd_len (P : List α → Bool) (l : List α) : ∀ c, c ≤ l.length → l.length - c ≤ (prd P l c).length ∧ (prd P l c).length ≤ l.length
  | 0, _ => ⟨Nat.le_refl _, Nat.le_refl _⟩
  | c + 1, h => by
    have ih := prd_len P l c (by omega)
    unfold prd
    split
    · have e : ((prd P l c).eraseIdx (l.length - 1 - c)).length = (prd P l c).length - 1 := by rw [List.length_eraseIdx_of_lt (by omega)]
      rw [e]
      omega
    · omega
theorem prd_mem (P : List α → Bool) (l : List α) : ∀ c, ∀ x ∈ prd P l c, x ∈ l
  | 0, _, h => h
  | c + 1, x, h => by
    unfold prd at h
    split at h
    · exact prd_mem P l c x (List.mem_of_mem_eraseIdx h)
    · exact prd_mem P l c x h
/-- the walk with a sign -/
def wlk (L : List Wk) (p : Int) (g : Nat × Bool) : List Int := (((ways L p).find? fun e => decide (e.1 = ⟨p, g.1, g.2⟩)).map Prod.snd).getD []
theorem wlk_in {L : List Wk} {p : Int} {g : Nat × Bool} (h : g ∈ signs L p) : ((⟨p, g.1, g.2⟩ : St), wlk L p g) ∈ ways L p := by
  unfold signs at h
  have h2 := of_decide_eq_true (List.mem_filter.1 h).2
  obtain ⟨e, he, h3⟩ := List.mem_map.1 h2
  unfold wlk
  cases hf : (ways L p).find? fun e => decide (e.1 = ⟨p, g.1, g.2⟩) with
  | none =>
    have := List.find?_eq_none.1 hf e he
    simp [h3] at this
  | some e2 =>
    have h4 : e2.1 = ⟨p, g.1, g.2⟩ := by simpa using List.find?_some hf
    have h5 := List.mem_of_find?_eq_some hf
    obtain ⟨a, b⟩ := e2
    simp only at h4
    subst h4
    exact h5
/-- Prove's walks -/
def prvW (s : Nat) (L : List Wk) (p : Int) : List (List Int) := (prd (fun G => frd s G == 0) (signs L p) (signs L p).length).map (wlk L p)
end Pl
namespace Go.Proofs.YtmkjmpkicmadcaaDoor
open Go.RowKit

/-- the list of signs that is left, in its box -/
structure SGb (W : World) (sb : Nat) (G : List (Nat × Bool)) : Prop where
  v : ∃ v, W.cell? ⟨sb, 0, none⟩ = some v ∧ W.ownsRow 0 38 2 v G.length (sgCells G) ∧ v.ownBlock ≠ some sb
  f : W.frozen? ⟨sb, 0, none⟩ = false
theorem SGb.but {T : Nat → Prop} {W W' : World} {sb : Nat} {G : List (Nat × Bool)} (h : SGb W sb G) (hb : But T W W') (h1 : ¬ T sb) (h2 : ∀ g, (∃ cs e, W.heap[g]? = some (.cells cs e)) → g ≠ sb → ¬ T g) : SGb W' sb G := by
  obtain ⟨v, d, o, n⟩ := h.v
  refine ⟨⟨v, hb.kept d h1, ownBut o hb (fun g hg => ?_), n⟩, (hb.frozen (p := ⟨sb, 0, none⟩) (block_lt_of_cell d) h1).trans h.f⟩
  refine h2 g ?_ (fun e => n (by rw [hg, e]))
  obtain ⟨_, o2⟩ := o
  rcases o2 with ⟨hv, _⟩ | ⟨g', cap, cur, hv, _, hc, _⟩
  · rw [hv] at hg; cases hg
  · rw [hv] at hg
    obtain rfl : g' = g := by cases hg; rfl
    exact ⟨cur, _, hc⟩
theorem SGb.below {W W' : World} {sb : Nat} {G : List (Nat × Bool)} (h : SGb W sb G) (hb : Below W.heap.size W W') : SGb W' sb G :=
  h.but (T := fun _ => False) ((But.of_below hb).mono (fun _ _ h => h)) id (fun _ _ _ h => h)
/-- another list is put into the box -/
theorem SGb.put {W : World} {sb : Nat} {G G' : List (Nat × Bool)} (h : SGb W sb G) {v' : Value} (ho : W.ownsRow 0 38 2 v' G'.length (sgCells G')) (hn : v'.ownBlock ≠ some sb) : SGb (W.setCell ⟨sb, 0, none⟩ v') sb G' := by
  obtain ⟨v, d, _, _⟩ := h.v
  have hs : But (fun k => k = sb) W (W.setCell ⟨sb, 0, none⟩ v') := (But.refl (fun k => k = sb) W).setCell (p := ⟨sb, 0, none⟩) (.inr rfl) _
  refine ⟨⟨v', by simp [go_sem, d], ownBut ho hs (fun g hg e => hn (by rw [hg, e])), hn⟩, ?_⟩
  have hf := h.f
  simp [go_sem, hf]

/-- what the loop over the signs keeps -/
def KP (Wr : World) (sb : Nat) (P : List (Nat × Bool) → Bool) (G : List (Nat × Bool)) (pre : List (Nat × (Nat × Bool))) (W : World) : Prop :=
  But (fun g => g = sb) Wr W ∧ SGb W sb (Pl.prd P G pre.length)
theorem kp_own (Wr : World) (S sb : Nat) (hS : Wr.heap.size = S) (hsb : sb < S) (P : List (Nat × Bool) → Bool) (G : List (Nat × Bool)) : OwnFrom S (KP Wr sb P G) := by
  intro pre W W' row ⟨h1, h2⟩ hg hr
  refine ⟨⟨hg.os.trans h1.os, hg.tape.trans h1.tape, hg.output.trans h1.output, Nat.le_trans h1.size hg.size, fun k hk hn => (hg.block k (Nat.lt_of_lt_of_le hk h1.size) (fun e => by have := (hr k e.symm).1; omega)).trans (h1.block k hk hn)⟩, h2.but (butGrown hg) (fun e => by have := (hr sb e).1; omega) (fun g hcs _ e => ?_)⟩
  obtain ⟨cs, t, hc⟩ := hcs
  obtain ⟨_, o, ho, hcl⟩ := hr g e
  rw [hc] at ho
  obtain rfl := Option.some.inj ho
  simp [Obj.isCells] at hcl
end Go.Proofs.YtmkjmpkicmadcaaDoor

/- Contracts of package plate: Prove of a plate that is flat. -/
namespace Go.Proofs.YtmkjmpkicmadcaaDoor
open Go.RowKit
attribute [local go_sem] Oper.semAt_some

/-- what Prove leaves -/
def PvPost (w : World) (LS : List (List Int)) (e : Ending) (w' : World) : Prop :=
  ∃ v n c, e = .returned (.tuple #[.slice v n c, .int .i64 0]) ∧ Hid (LS.length = n) ∧ Hid (LnAt w' v LS) ∧ Below w.heap.size w w'

theorem par_ways (L : List Pl.Wk) (p : Int) : Pl.Par (Pl.adv L) (Pl.ways L p) := Pl.Par.bfs _ _ _ (Pl.par_start _ _)
theorem lens_all {f : Pl.St → Int → Option Pl.St} {R : List (Pl.St × List Int)} (h : Pl.Par f R) : ∀ (n : Nat) (e : Pl.St × List Int), e ∈ R → e.2.length = n → ∀ j, j ≤ n → ∃ e' ∈ R, e'.2.length = j
  | 0, e, he, hl, j, hj => ⟨e, he, by omega⟩
  | n + 1, e, he, hl, j, hj => by
    by_cases hjn : j = n + 1
    · exact ⟨e, he, by omega⟩
    · rcases h e he with h0 | ⟨x, hx, t, hxt, _⟩
      · rw [h0] at hl
        simp at hl
      · refine lens_all h n x hx ?_ j (by omega)
        rw [hxt, List.length_append] at hl
        simp at hl
        exact hl
theorem ways_lens {L : List Pl.Wk} {p : Int} {e : Pl.St × List Int} (he : e ∈ Pl.ways L p) : e.2.length + 1 ≤ (Pl.ways L p).length := by
  have h := Pl.nodup_le (U := (Pl.ways L p).map fun e => e.2.length) (l := List.range (e.2.length + 1)) List.nodup_range (fun j hj => by
    obtain ⟨e', h1, h2⟩ := lens_all (par_ways L p) _ e he rfl j (by have := List.mem_range.1 hj; omega)
    exact List.mem_map.2 ⟨e', h1, h2⟩)
  simpa using h
theorem NsAt.but {T : Nat → Prop} {W W' : World} {a : Option Addr} {l : List Int} (h : NsAt W a l) (hb : But T W W') (ht : ∀ g, T g → ∀ o, W.heap[g]? = some o → o.isCells = false) : NsAt W' a l := fun k hk => by
  obtain ⟨x, rfl, hc⟩ := h k hk
  refine ⟨x, rfl, hb.kept hc (fun e => ?_)⟩
  have hlt := block_lt_of_cell hc
  have h1 := cells_of_cell hc (o := W.heap[(x.add k).block]) (Array.getElem?_eq_getElem hlt)
  rw [ht _ e _ (Array.getElem?_eq_getElem hlt)] at h1
  cases h1
/-- the walks that were found, as slices in a row of one's own -/
structure PvL (W0 W : World) (v : Value) (k : Nat) (WL : List (List Int)) (xs : List Value) : Prop where
  o : W.ownsRow W0.heap.size 35 1 v k xs
  l : xs.length = k
  a : ∀ i, i < k → ∃ b n c, xs[i]? = some (.slice b n c) ∧ (WL.getD i []).length = n ∧ NsAt W b (WL.getD i []) ∧ ∀ y, b = some y → y.block < W.heap.size ∧ v.ownBlock ≠ some y.block
  b : Below W0.heap.size W0 W
theorem PvL.below {W0 W W' : World} {v : Value} {k : Nat} {WL : List (List Int)} {xs : List Value} (h : PvL W0 W v k WL xs) (hb : Below W.heap.size W W') : PvL W0 W' v k WL xs :=
  ⟨ownBelow h.o hb, h.l, fun i hi => by
    obtain ⟨b, n, c, h1, h2, h3, h4⟩ := h.a i hi
    exact ⟨b, n, c, h1, h2, h3.below hb, fun y e => ⟨Nat.lt_of_lt_of_le (h4 y e).1 hb.size, (h4 y e).2⟩⟩, h.b.trans (hb.mono h.b.size)⟩
theorem PvL.more {W0 W W4 : World} {v v' : Value} {k : Nat} {WL : List (List Int)} {xs : List Value} {o : Obj} (h : PvL W0 W v k WL xs) {b : Option Addr} {n c : Nat} (hn : (WL.getD k []).length = n) (hN : NsAt W b (WL.getD k [])) (hbf : ∀ y, b = some y → y.block < W.heap.size ∧ v.ownBlock ≠ some y.block) (hown : W4.ownsRow W0.heap.size 35 1 v' (k + 1) (xs ++ [.slice b n c])) (hgrow : (W.alloc o).grownBy W4 v.ownBlock) (hat : v'.ownBlock = v.ownBlock ∨ v'.ownBlock = some (W.heap.size + 1)) : PvL W0 W4 v' (k + 1) WL (xs ++ [.slice b n c]) := by
  have hA := below_alloc (Below.refl W.heap.size W) o
  have hz : W.heap.size ≤ W4.heap.size := Nat.le_trans hA.size hgrow.size
  have kp : ∀ {b : Option Addr} {l : List Int}, NsAt W b l → (∀ y, b = some y → y.block < W.heap.size ∧ v.ownBlock ≠ some y.block) → NsAt W4 b l ∧ ∀ y, b = some y → y.block < W4.heap.size ∧ v'.ownBlock ≠ some y.block := fun hN hbf => by
    refine ⟨fun j hj => ?_, fun y e => ⟨Nat.lt_of_lt_of_le (hbf y e).1 hz, fun e2 => ?_⟩⟩
    · obtain ⟨y, rfl, hc⟩ := hN j hj
      refine ⟨y, rfl, (butGrown hgrow).kept (kept1 hc hA) (fun e => (hbf y rfl).2 ?_)⟩
      have hyb : (y.add j).block = y.block := by unfold Addr.add; split <;> rfl
      rw [e, hyb]
    · rcases hat with hh | hh
      · exact (hbf y e).2 (by rw [← hh, e2])
      · rw [hh] at e2
        have := Option.some.inj e2
        have := (hbf y e).1
        omega
  refine ⟨hown, by rw [List.length_append, h.l]; rfl, fun i hi => ?_, ?_⟩
  · by_cases e : i = k
    · subst e
      refine ⟨b, n, c, ?_, hn, kp hN hbf⟩
      rw [List.getElem?_append_right (by rw [h.l]; exact Nat.le_refl _), h.l, Nat.sub_self]
      rfl
    · obtain ⟨b', n', c', h1, h2, h3, h4⟩ := h.a i (by omega)
      exact ⟨b', n', c', by rw [List.getElem?_append_left (by rw [h.l]; omega)]; exact h1, h2, kp h3 h4⟩
  · exact (below_alloc h.b o).grown hgrow (by have := h.b.size; simp; omega) (fun g hg => ownFar h.o hg)
theorem bs_at {L : List (Nat × Bool)} {pre : List (Nat × (Nat × Bool))} {x : Nat × (Nat × Bool)} (h : pre ++ [x] <+: bs L L.length) : pre.length < L.length ∧ x.1 = L.length - 1 - pre.length := by
  have h1 := pre_last h
  have h2 : pre.length < (bs L L.length).length := (List.getElem?_eq_some_iff.1 h1).1
  rw [bs_len] at h2
  refine ⟨h2, ?_⟩
  unfold bs at h1
  rw [List.getElem?_map, List.getElem?_range h2] at h1
  simp only [Option.map_some, Option.some.injEq] at h1
  rw [← h1]

set_option maxRecDepth 100000 in
set_option maxHeartbeats 8000000 in
theorem pProve_ok (s : Nat) (m : Int) (a : Option Addr) (q cap : Nat) (L : List Pl.Wk) (hq : L.length = q) (p : Int) (hV : Pl.VS s m L p) (hfr : (Pl.frd s (Pl.signs L p) == 0) = true) (w : World) (hL : Hid (WksAt w a L)) :
    Calls Tryd.prog 34 #[.agg #[.int .i64 (s : Int), .int .i64 m, .slice a q cap], .int .i64 p] w (PvPost w (Pl.prvW s L p)) := by
  have HC := Lib.hid (cp_ok hV (cap := cap) hq hL)
  have HW := Lib.hid (wf_ok hV (cap := cap) hq hL)
  have hsl := Pl.signs_len L p
  refine (callsIn_wide (n := 7)).1 ?_
  refine callsIn_of_wp_marks Tryd.func34 rfl trivial ?_ rfl
  simp only [Tryd.ntmps34, List.size_toArray, List.length_cons, List.length_nil, Nat.reduceAdd, Nat.reduceSub, Array.replicate_succ, Array.replicate_zero, List.push_toArray, List.append_toArray, List.nil_append, List.cons_append]
  gi_wp2_with fail
  refine ⟨trivial, ?_⟩
  refine (callsIn_wide.2 (HC.out _ (by repeat (first | with_reducible exact Below.refl _ _ | with_reducible assumption | refine below_drewN ?_ _ | refine Below.drew ?_ | refine Below.alloc ?_ (by first | (simp; done) | (simp; omega) | omega) _ | refine Below.setCell ?_ (by first | (simp; done) | (simp; omega) | omega) _ | refine Below.trans ?_ (Below.mono (by assumption) (by first | (simp; done) | (simp; omega) | omega)))))).mono ?_
  rintro e w1 ⟨rfl, hb1⟩
  have k0 : w1.cell? ⟨w.heap.size, 0, none⟩ = some (.int .i64 (s : Int)) := kept1 (by simp [go_sem]) hb1
  have k1 : w1.cell? ⟨w.heap.size, 1, none⟩ = some (.int .i64 m) := kept1 (by simp [go_sem]) hb1
  have k2 : w1.cell? ⟨w.heap.size, 2, none⟩ = some (.slice a q cap) := kept1 (by simp [go_sem]) hb1
  have hbw : Below w.heap.size w w1 := (by repeat (first | with_reducible exact Below.refl _ _ | with_reducible assumption | refine below_drewN ?_ _ | refine Below.drew ?_ | refine Below.alloc ?_ (by first | (simp; done) | (simp; omega) | omega) _ | refine Below.setCell ?_ (by first | (simp; done) | (simp; omega) | omega) _ | refine Below.trans ?_ (Below.mono (by assumption) (by first | (simp; done) | (simp; omega) | omega))))
  clear hb1 HC
  gi_wp2_with fail
  refine ⟨trivial, ?_⟩
  refine (callsIn_wide.2 (HW.out _ hbw)).mono ?_
  rintro e w2 ⟨a1, n1, c1, mb, f, rfl, hn1, hS, hM, hA, hb2⟩
  replace hn1 := Lib.hid hn1
  replace k0 := kept1 k0 hb2
  have hbw2 := hbw.trans (hb2.mono hbw.size)
  have HS0 := Lib.hid (fun (W : World) (hb : Below w2.heap.size w2 W) => signs_after hV hn1.out hS.out hM.out hA.out (cap := c1) W hb)
  clear hbw hb2 HW k1 k2
  gi_upto_region 5 with fail
  have hba := below_alloc (Below.refl w2.heap.size w2) (Obj.cells #[.slice a1 n1 c1, .map (some mb)] 88)
  have z0 : (w2.alloc (Obj.cells #[.slice a1 n1 c1, .map (some mb)] 88)).cell? ⟨w2.heap.size, 0, none⟩ = some (.slice a1 n1 c1) := by simp [go_sem]
  have z1 : (w2.alloc (Obj.cells #[.slice a1 n1 c1, .map (some mb)] 88)).cell? ⟨w2.heap.size, 1, none⟩ = some (.map (some mb)) := by simp [go_sem]
  replace k0 := kept1 k0 hba
  have hS1 := Lib.hid (hS.out.below hba)
  have hM1 : Hid (∃ k, AM (w2.alloc (Obj.cells #[.slice a1 n1 c1, .map (some mb)] 88)) mb k f) := Lib.hid (by obtain ⟨k, h⟩ := hM.out; exact ⟨k, h.below hba⟩)
  have hbw3 := hbw2.trans (hba.mono hbw2.size)
  have HS1 := Lib.hid (HS0.out _ hba)
  clear hba hM hS HS0 hbw2
  generalize w2.alloc (Obj.cells #[.slice a1 n1 c1, .map (some mb)] 88) = X at *
  have hwx0 := block_lt_of_cell z0
  simp only at hwx0
  have hk0X := block_lt_of_cell k0
  simp only at hk0X
  generalize w2.heap.size = wx at *
  clear w2 w1
  gi_wp2_with fail
  refine ⟨trivial, ?_⟩
  refine (callsIn_wide.2 HS1.out).mono ?_
  rintro e w3 ⟨v, rfl, hO⟩
  have hbO := hO.out.b
  have zz0 := z0
  have zz1 := z1
  have hzX := hbO.size
  replace k0 := kept1 k0 hbO
  replace z0 := kept1 z0 hbO
  replace z1 := kept1 z1 hbO
  have hS3 := Lib.hid (hS1.out.below hbO)
  have hM3 : Hid (∃ k, AM w3 mb k f) := Lib.hid (by obtain ⟨k, h⟩ := hM1.out; exact ⟨k, h.below hbO⟩)
  have hbw4 := hbw3.trans (hbO.mono hbw3.size)
  obtain ⟨a3, c3, hv3, hG3⟩ := hO.out.at
  have ho3 := hO.out.o
  obtain ⟨G, hGe⟩ : ∃ G, Pl.signs L p = G := ⟨_, rfl⟩
  have hsg : ∀ g ∈ G, g.1 < 8 := by rw [← hGe]; exact hV.sg
  rw [hGe] at hv3 hG3 ho3 hfr hsl
  subst hv3
  obtain ⟨nG, hnG⟩ : ∃ nG, G.length = nG := ⟨_, rfl⟩
  rw [hnG] at ho3 hsl ⊢
  have hlt3 := ho3.lt
  have HP := Lib.hid (fun (W : World) (hb : Below w3.heap.size w3 W) => proves_any s hV.s1 hV.s6 a3 nG c3 G (Lib.hid hnG) (by omega) (Lib.hid hsg) W (Lib.hid (hG3.below hb)))
  rw [hfr] at HP
  have hX3 := hbO
  have zX0 := Lib.hid zz0
  have zX1 := Lib.hid zz1
  clear hbO hO hbw3 HS1 zz0 zz1
  gi_upto_region 6 with fail
  have hba2 := below_alloc (Below.refl w3.heap.size w3) (Obj.cells #[.slice a3 nG c3] 57)
  have hSG : SGb (w3.alloc (Obj.cells #[.slice a3 nG c3] 57)) w3.heap.size G := ⟨⟨.slice a3 nG c3, by simp [go_sem], by rw [hnG]; exact (ownBase ho3 (Nat.zero_le _)).alloc _, fun e => by have := (hlt3 _ e).2; omega⟩, by simp [go_sem]⟩
  have d8 : (w3.alloc (Obj.cells #[.slice a3 nG c3] 57)).cell? ⟨w3.heap.size, 0, none⟩ = some (.slice a3 nG c3) := by simp [go_sem]
  replace k0 := kept1 k0 hba2
  replace z0 := kept1 z0 hba2
  replace z1 := kept1 z1 hba2
  have hS4 := Lib.hid (hS3.out.below hba2)
  have hM4 : Hid (∃ k, AM (w3.alloc (Obj.cells #[.slice a3 nG c3] 57)) mb k f) := Lib.hid (by obtain ⟨k, h⟩ := hM3.out; exact ⟨k, h.below hba2⟩)
  have ho4 := ho3.alloc (Obj.cells #[.slice a3 nG c3] 57)
  have hbw5 := hbw4.trans (hba2.mono hbw4.size)
  have HP1 := Lib.hid (HP.out _ hba2)
  replace hX3 := hX3.trans (hba2.mono hX3.size)
  have hwx : wx < w3.heap.size := Nat.lt_of_lt_of_le hwx0 hzX
  clear hba2 hS3 hM3 ho3 hbw4 HP
  generalize w3.alloc (Obj.cells #[.slice a3 nG c3] 57) = Y at *
  generalize w3.heap.size = sb at *
  gi_wp2_with fail
  refine ⟨trivial, ?_⟩
  refine (callsIn_wide.2 HP1.out).mono ?_
  rintro e w4 ⟨rfl, hb4⟩
  replace k0 := kept1 k0 hb4
  replace z0 := kept1 z0 hb4
  replace z1 := kept1 z1 hb4
  replace d8 := kept1 d8 hb4
  have hS5 := Lib.hid (hS4.out.below hb4)
  have hM5 : Hid (∃ k, AM w4 mb k f) := Lib.hid (by obtain ⟨k, h⟩ := hM4.out; exact ⟨k, h.below hb4⟩)
  have ho5 := ownBelow ho4 hb4
  have hSG5 := hSG.below hb4
  have hbw6 := hbw5.trans (hb4.mono hbw5.size)
  replace hX3 := hX3.trans (hb4.mono hX3.size)
  clear hb4 hS4 hM4 ho4 hSG hbw5 HP1
  gi_wp2_with fail
  refine ⟨trivial, ?_⟩
  refine (callsIn_wide.2 (backwardS_any a3 nG c3 w4)).mono ?_
  rintro e w5 ⟨rfl, rfl⟩
  have hba3 := below_alloc (Below.refl w4.heap.size w4) (Obj.cells #[.slice a3 nG c3] 57)
  have b0 : (w4.alloc (Obj.cells #[.slice a3 nG c3] 57)).cell? ⟨w4.heap.size, 0, none⟩ = some (.slice a3 nG c3) := by simp [go_sem]
  replace k0 := kept1 k0 hba3
  replace z0 := kept1 z0 hba3
  replace z1 := kept1 z1 hba3
  have hsb := block_lt_of_cell d8
  simp only at hsb
  have hS6 := Lib.hid (hS5.out.below hba3)
  have hM6 : Hid (∃ k, AM (w4.alloc (Obj.cells #[.slice a3 nG c3] 57)) mb k f) := Lib.hid (by obtain ⟨k, h⟩ := hM5.out; exact ⟨k, h.below hba3⟩)
  have ho6 := Lib.hid (ownBelow ho5 hba3)
  have hSG6 := Lib.hid (hSG5.below hba3)
  have hbw7 := hbw6.trans (hba3.mono hbw6.size)
  replace hX3 := hX3.trans (hba3.mono hX3.size)
  have hz2 : sb < (w4.alloc (Obj.cells #[.slice a3 nG c3] 57)).heap.size := by simp; omega
  clear hba3 hS5 hM5 ho5 hSG5 hbw6 d8
  generalize w4.alloc (Obj.cells #[.slice a3 nG c3] 57) = Z at *
  generalize w4.heap.size = bb at *
  gi_wp2_with fail
  refine range_nextV (enc := bsV) (n := 7) (hps := fun _ => rfl) (by omega) (gf := 75) (lb := #[.pointer (some ⟨bb, 0, none⟩)]) rfl (enters_of Tryd.func75 (by kernel_rfl) rfl)
    (backwardS_hands 6 (by omega) bb nG c3 a3 G hnG (by omega) Z) (Below.refl _ _)
    (KP Z sb (fun G => Pl.frd s G == 0) G) (fun _ _ => False) (kp_own Z _ sb rfl hz2 _ G) (fun _ _ _ _ h _ _ => h) ?keep ⟨But.refl _ _, hSG6.out⟩ ?a1 ?assign ?body ?done ?stop
  case keep =>
    rintro pre W ⟨hB, _⟩
    refine ⟨hB.kept b0 (fun e => by simp only at e; omega), ?_⟩
    have ho7 := ownBut ho6.out hB (fun g hg e => by have := (hlt3 g hg).2; omega)
    rw [← hnG] at ho7
    obtain ⟨a9, c9, e9, h9⟩ := sgs_of_owns rfl ho7
    simp only [Value.slice.injEq] at e9
    obtain ⟨rfl, _, _⟩ := e9
    exact h9
  case assign =>
    intro l x W K' hK'
    simp only [bsV, sgV] at hK' ⊢
    gi_wp2
    exact hK'
  case stop => exact fun _ _ _ _ _ h _ => h.elim
  case body =>
    rintro l pre ⟨i, g⟩ W ⟨hB, hSG⟩ hpre
    obtain ⟨hlt, hx⟩ := bs_at hpre
    simp only at hx
    rw [hnG] at hlt hx
    have hpl := Pl.prd_len (fun G => Pl.frd s G == 0) G pre.length (by omega)
    rw [hnG] at hpl
    have hpm := Pl.prd_mem (fun G => Pl.frd s G == 0) G pre.length
    have hps : Pl.prd (fun G => Pl.frd s G == 0) G (pre.length + 1) = if (Pl.frd s ((Pl.prd (fun G => Pl.frd s G == 0) G pre.length).eraseIdx i) == 0) = true then (Pl.prd (fun G => Pl.frd s G == 0) G pre.length).eraseIdx i else Pl.prd (fun G => Pl.frd s G == 0) G pre.length := by
      rw [hx, ← hnG]
      rfl
    have hil0 : i + 1 + pre.length = nG := by omega
    replace hx := Lib.hid hx
    have hsnoc : (pre ++ [(i, g)]).length = pre.length + 1 := by simp
    obtain ⟨cur, hcur⟩ : ∃ cur, Pl.prd (fun G => Pl.frd s G == 0) G pre.length = cur := ⟨_, rfl⟩
    rw [hcur] at hpl hpm hps hSG
    obtain ⟨v, d, o, nv⟩ := hSG.v
    obtain ⟨lc, hlc⟩ : ∃ lc, cur.length = lc := ⟨_, rfl⟩
    rw [hlc] at o hpl
    obtain ⟨av, cv, hv, hcs, hcn⟩ := cs_of_owns o
    subst hv
    have hil : i < lc := by omega
    have hcv : lc ≤ cv := by
      rcases o.2 with ⟨hv, h0⟩ | ⟨g', cap', cur', hv, _, _, hle, _⟩
      · omega
      · simp only [Value.slice.injEq] at hv
        obtain ⟨_, _, rfl⟩ := hv
        exact hle
    have hcap : cv ≤ maxLen := by
      rcases o.2 with ⟨hv, h0⟩ | ⟨g', cap', cur', hv, _, _, hle, hcm, _⟩
      · omega
      · simp only [Value.slice.injEq] at hv
        obtain ⟨_, _, rfl⟩ := hv
        exact hcm
    unfold maxLen at hcap
    obtain ⟨x, rfl⟩ : ∃ x, av = some x := by
      cases av with
      | none =>
        have := hcs.none
        have h2 := congrArg List.length this
        rw [sgCells_len] at h2
        simp at h2
        omega
      | some x => exact ⟨x, rfl⟩
    have i0 : (0 : Int) ≤ (i : Int) := by omega
    have i1 : (i : Int) ≤ (cv : Int) := by omega
    have i2 : (i : Int) + 1 ≤ (lc : Int) := by omega
    have i3 : (0 : Int) ≤ (i : Int) + 1 := by omega
    have hw1 : IntKind.i64.wrap ((i : Int) + 1) = (i : Int) + 1 := by rw [IntWalk.i64_left]; exact IntWalk.wrap64_in _ (by omega)
    gi_wp2_with fail
    have S0 : W.drew.cell? ⟨sb, 0, none⟩ = some (.slice (some x) lc cv) := d
    refine held_round (fun w' => w'.cell? ⟨sb, 0, none⟩ = some (.slice (some x) lc cv)) (fun ⟨_, _, h⟩ => h) rfl (by kernel_rfl) S0 (fun hHeld => ?_)
    have ht1 : ((i : Int) + 1).toNat = i + 1 := by omega
    refine wpAnyH_take (i := 0) (v := ?_) rfl (by kernel_rfl) (by kernel_rfl) (by kernel_rfl) (fun _ _ _ h => h) (Or.inl ⟨by rfl, ?_⟩) (by assumption) ?_
    rotate_left 1
    · (intro w hSw; (try dsimp only at hSw); go_simp; all_goals with_reducible rfl)
    try simp only [Act.put, List.setIfInBounds_toArray, List.set_cons_zero, List.set_cons_succ]
    refine wpAnyH_take (i := 1) (v := ?_) rfl (by kernel_rfl) (by kernel_rfl) (by kernel_rfl) (fun _ _ _ h => h) (Or.inl ⟨by rfl, ?_⟩) (by assumption) ?_
    rotate_left 1
    · (intro w hSw; (try dsimp only at hSw); go_simp; all_goals with_reducible rfl)
    try simp only [Act.put, List.setIfInBounds_toArray, List.set_cons_zero, List.set_cons_succ]
    refine wpAnyH_take (i := 2) (v := ?_) rfl (by kernel_rfl) (by kernel_rfl) (by kernel_rfl) (fun _ _ _ h => h) (Or.inl ⟨by rfl, ?_⟩) (by assumption) ?_
    rotate_left 1
    · (intro w hSw; (try dsimp only at hSw); go_simp; all_goals with_reducible rfl)
    try simp only [Act.put, List.setIfInBounds_toArray, List.set_cons_zero, List.set_cons_succ]
    refine wpAnyH_take (i := 3) (v := ?_) rfl (by kernel_rfl) (by kernel_rfl) (by kernel_rfl) (fun _ _ _ h => h) (Or.inl ⟨by rfl, ?_⟩) (by assumption) ?_
    rotate_left 1
    · (intro w hSw; (try dsimp only at hSw); go_simp; all_goals with_reducible rfl)
    try simp only [Act.put, List.setIfInBounds_toArray, List.set_cons_zero, List.set_cons_succ]
    refine wpAnyH_take (i := 4) (v := ?_) rfl (by kernel_rfl) (by kernel_rfl) (by kernel_rfl) (fun _ _ _ h => h) (Or.inl ⟨by rfl, ?_⟩) (by assumption) ?_
    rotate_left 1
    · (intro w hSw; (try dsimp only at hSw); go_simp; all_goals with_reducible rfl)
    try simp only [Act.put, List.setIfInBounds_toArray, List.set_cons_zero, List.set_cons_succ]
    refine wpAnyH_take (i := 5) (v := ?_) rfl (by kernel_rfl) (by kernel_rfl) (by kernel_rfl) (fun _ _ _ h => h) (Or.inl ⟨by rfl, ?_⟩) (by assumption) ?_
    rotate_left 1
    · (intro w hSw; (try dsimp only at hSw); go_simp; all_goals with_reducible rfl)
    try simp only [Act.put, List.setIfInBounds_toArray, List.set_cons_zero, List.set_cons_succ]
    refine wpAnyH_take (i := 6) (v := ?_) rfl (by kernel_rfl) (by kernel_rfl) (by kernel_rfl) (fun _ _ _ h => h) (Or.inl ⟨by rfl, ?_⟩) (by assumption) ?_
    rotate_left 1
    · (intro w hSw; (try dsimp only at hSw); go_simp; all_goals with_reducible rfl)
    try simp only [Act.put, List.setIfInBounds_toArray, List.set_cons_zero, List.set_cons_succ]
    simp only [List.getElem_toArray, List.getElem_cons_succ, List.getElem_cons_zero, Act.put, List.setIfInBounds_toArray, List.set_cons_zero, List.set_cons_succ]
    generalize hb2 : (if cv = i + 1 then some x else some (x.add ((i + 1) * 2))) = b2
    have hbD : Below W.heap.size W (W.alloc (Obj.cells #[.slice (some x) i cv, .slice b2 (lc - (i + 1)) (cv - (i + 1))] 57)).drew := (below_alloc (Below.refl W.heap.size W) (Obj.cells #[.slice (some x) i cv, .slice b2 (lc - (i + 1)) (cv - (i + 1))] 57)).drew
    have d0 : (W.alloc (Obj.cells #[.slice (some x) i cv, .slice b2 (lc - (i + 1)) (cv - (i + 1))] 57)).drew.cell? ⟨W.heap.size, 0, none⟩ = some (.slice (some x) i cv) := by simp [go_sem]
    have d1 : (W.alloc (Obj.cells #[.slice (some x) i cv, .slice b2 (lc - (i + 1)) (cv - (i + 1))] 57)).drew.cell? ⟨W.heap.size, 1, none⟩ = some (.slice b2 (lc - (i + 1)) (cv - (i + 1))) := by simp [go_sem]
    have hcsD := hcs.below hbD
    have hcell : cur.take i ++ cur.drop (i + 1) = cur.eraseIdx i := (List.eraseIdx_eq_take_drop_succ cur i).symm
    have hsplit : sgCells cur = sgCells (cur.take i) ++ sgCells (cur.drop i) := by rw [← sgCells_append, List.take_append_drop]
    have hsplit2 : sgCells cur = sgCells (cur.take (i + 1)) ++ sgCells (cur.drop (i + 1)) := by rw [← sgCells_append, List.take_append_drop]
    have hl1 : (sgCells (cur.take i)).length = i * 2 := by rw [sgCells_len, List.length_take]; omega
    have hl1' : (sgCells (cur.take (i + 1))).length = (i + 1) * 2 := by rw [sgCells_len, List.length_take]; omega
    have hl2 : (sgCells (cur.drop (i + 1))).length = (lc - (i + 1)) * 2 := by rw [sgCells_len, List.length_drop]; omega
    have hA1 : CsAt (W.alloc (Obj.cells #[.slice (some x) i cv, .slice b2 (lc - (i + 1)) (cv - (i + 1))] 57)).drew (some x) (sgCells (cur.take i)) := fun j u hu => hcsD j u (by
      rw [hsplit, List.getElem?_append_left (List.getElem?_eq_some_iff.1 hu).1]
      exact hu)
    have hA2 : CsAt (W.alloc (Obj.cells #[.slice (some x) i cv, .slice b2 (lc - (i + 1)) (cv - (i + 1))] 57)).drew b2 (sgCells (cur.drop (i + 1))) := fun j u hu => by
      have hj := (List.getElem?_eq_some_iff.1 hu).1
      rw [hl2] at hj
      have hne : ¬ cv = i + 1 := by omega
      rw [if_neg hne] at hb2
      subst hb2
      obtain ⟨y, hy, hc⟩ := hcsD ((i + 1) * 2 + j) u (by
        rw [hsplit2, List.getElem?_append_right (by omega), hl1', Nat.add_sub_cancel_left]
        exact hu)
      obtain rfl := Option.some.inj hy
      refine ⟨_, rfl, ?_⟩
      have e1 : (x.add ((i + 1) * 2)).add j = x.add ((i + 1) * 2 + j) := by
        unfold Addr.add
        by_cases hj0 : j = 0
        · subst hj0; simp
        · rw [if_neg hj0, if_neg (by omega), if_neg (by omega)]
          simp only [Addr.mk.injEq, true_and, and_true]
          omega
      rw [e1]
      exact hc
    have hb2n : b2 = none → cv - (i + 1) = 0 := fun e => by
      by_cases h9 : cv = i + 1
      · omega
      · rw [if_neg h9] at hb2
        rw [← hb2] at e
        cases e
    have hone : ∀ l : List (Nat × Bool), ∀ u ∈ sgCells l, u.oneCell' = true := fun l u hu => by
      unfold sgCells at hu
      obtain ⟨g, _, h⟩ := List.mem_flatMap.1 hu
      simp at h
      rcases h with rfl | rfl <;> rfl
    have HCc := Lib.hid (concatSg_any W.heap.size (some x) b2 i (lc - (i + 1)) cv (cv - (i + 1)) (by omega) (by omega) (sgCells (cur.take i)) (sgCells (cur.drop (i + 1))) (Lib.hid hl1) (Lib.hid hl2) (Lib.hid (hone _)) (Lib.hid (hone _)) (Lib.hid (fun e => by cases e)) (Lib.hid hb2n) _ (Lib.hid hA1) (Lib.hid hA2) d0 d1)
    rw [← sgCells_append, hcell] at HCc
    have S7 : (W.alloc (Obj.cells #[.slice (some x) i cv, .slice b2 (lc - (i + 1)) (cv - (i + 1))] 57)).drew.cell? ⟨sb, 0, none⟩ = some (.slice (some x) lc cv) := kept1 d hbD
    have hSG7 := Lib.hid (hSG.below hbD)
    have hB7 := Lib.hid (hB.trans (.of_below hbD))
    have hk7 : KeepsOthers W (W.alloc (Obj.cells #[.slice (some x) i cv, .slice b2 (lc - (i + 1)) (cv - (i + 1))] 57)).drew := ⟨hbD.size, fun k o hk _ => (hbD.block k (Array.getElem?_eq_some_iff.1 hk).1).trans hk⟩
    clear d0 d1 hcsD hcs hsplit hsplit2 hl1 hl1' hA1 hA2 hb2n hone hbD o hSG d hB
    refine wpAnyH_ready (rs := [7]) (by kernel_rfl) (by simp) ?_
    refine AllReadyH.cons rfl (fun K hK => ?_) ?_
    rotate_left 1
    · exact AllReadyH.nil
    go_simp
    refine hK.out _ _ S7 (fun hHeld7 => ?_)
    clear hK K
    try simp only [List.getElem_toArray, List.getElem_cons_succ, List.getElem_cons_zero, Act.put, List.setIfInBounds_toArray, List.set_cons_zero, List.set_cons_succ]
    generalize (W.alloc (Obj.cells #[.slice (some x) i cv, .slice b2 (lc - (i + 1)) (cv - (i + 1))] 57)).drew = V at *
    refine wpAnyH_ready (rs := [8]) (by kernel_rfl) (by simp) ?_
    refine AllReadyH.cons rfl (fun K hK => ?_) ?_
    rotate_left 1
    · exact AllReadyH.nil
    go_simp
    with_reducible refine (HCc.out).mono ?_
    rintro e w6 ⟨v6, he, ho7, hb6⟩
    subst he
    have S8 : w6.cell? ⟨sb, 0, none⟩ = some (.slice (some x) lc cv) := kept1 S7 hb6
    refine hK.out _ _ S8 (fun hHeld8 => ?_)
    clear hK K
    try simp only [List.getElem_toArray, List.getElem_cons_succ, List.getElem_cons_zero, Act.put, List.setIfInBounds_toArray, List.set_cons_zero, List.set_cons_succ]
    refine wpAnyH_take (i := 9) (v := ?_) rfl (by kernel_rfl) (by kernel_rfl) (by kernel_rfl) (fun _ _ _ h => h) (Or.inl ⟨by rfl, ?_⟩) (by assumption) ?_
    rotate_left 1
    · (intro w hSw; (try dsimp only at hSw); go_simp; all_goals with_reducible rfl)
    try simp only [Act.put, List.setIfInBounds_toArray, List.set_cons_zero, List.set_cons_succ]
    simp only [List.getElem_toArray, List.getElem_cons_succ, List.getElem_cons_zero, Act.put, List.setIfInBounds_toArray, List.set_cons_zero, List.set_cons_succ]
    refine wpAnyH_done (by kernel_rfl) ?_ _
    have hln : (cur.eraseIdx i).length = i + (lc - (i + 1)) := by rw [List.length_eraseIdx_of_lt (by omega), hlc]; omega
    obtain ⟨nl, hnl⟩ : ∃ nl, i + (lc - (i + 1)) = nl := ⟨_, rfl⟩
    rw [hnl] at ho7 hln
    obtain ⟨a6, c6, rfl, hG6⟩ := sgs_of_owns hln ho7.out
    have hnl2 : nl ≤ 1000 := by omega
    have hVsz : sb < V.heap.size := block_lt_of_cell S7
    have hSG8 := Lib.hid (hSG7.out.below hb6)
    have hB8 := Lib.hid (hB7.out.trans (.of_below hb6))
    have hk8 := hk7.trans ⟨hb6.size, fun k o hk _ => (hb6.block k (Array.getElem?_eq_some_iff.1 hk).1).trans hk⟩
    have k08 : w6.cell? ⟨w.heap.size, 0, none⟩ = some (.int .i64 (s : Int)) := hB8.out.kept k0 (fun e => by simp only at e; omega)
    have hsub : ∀ g ∈ cur.eraseIdx i, g.1 < 8 := fun g hg => hsg g (hpm g (List.mem_of_mem_eraseIdx hg))
    have HPv := Lib.hid (proves_any s hV.s1 hV.s6 a6 nl c6 (cur.eraseIdx i) (Lib.hid hln) hnl2 (Lib.hid hsub) w6 (Lib.hid hG6))
    have hfar : ∀ e : (Value.slice a6 nl c6).ownBlock = some sb, False := fun e => by have := ownFar ho7.out e; omega
    have ho8 := ownBase ho7.out (Nat.zero_le _)
    clear S0 S7 S8 hHeld hHeld7 hHeld8 hb6 ho7 hSG7 hB7 hk7 HCc hG6 hcell hl2 hb2
    cases hfb : (Pl.frd s (cur.eraseIdx i) == 0)
    · rw [hfb] at HPv
      rw [if_neg (by rw [hfb]; decide)] at hps
      gi_wp2_with fail
      refine ⟨trivial, ?_⟩
      refine (CallsIn.inRound _ (callsIn_wide.2 HPv.out)).mono ?_
      rintro e w7 ⟨rfl, hb7⟩
      have hk9 := hk8.trans ⟨hb7.size, fun k o hk _ => (hb7.block k (Array.getElem?_eq_some_iff.1 hk).1).trans hk⟩
      have hfin : KP Z sb (fun G => Pl.frd s G == 0) G (pre ++ [(i, g)]) w7 := ⟨hB8.out.trans (.of_below hb7), by rw [hsnoc, hps]; exact hSG8.out.below hb7⟩
      clear hB8 hSG8 HPv hb7 ho8 k08
      gi_wp2
      exact ⟨hk9.from _, hk9.walks⟩
    · rw [hfb] at HPv
      rw [if_pos (by rw [hfb])] at hps
      gi_wp2_with fail
      refine ⟨trivial, ?_⟩
      refine (CallsIn.inRound _ (callsIn_wide.2 HPv.out)).mono ?_
      rintro e w7 ⟨rfl, hb7⟩
      have hSG9 := hSG8.out.below hb7
      have ho9 := ownBelow ho8 hb7
      rw [← hln] at ho9
      have hput := hSG9.put ho9 (fun e => hfar (by rw [hln] at e; exact e))
      rw [hln] at hput
      obtain ⟨v9, d9, _, _⟩ := hSG9.v
      have f9 := hSG9.f
      have hk9 := (hk8.trans ⟨hb7.size, fun k o hk _ => (hb7.block k (Array.getElem?_eq_some_iff.1 hk).1).trans hk⟩).trans (KeepsOthers.setCell w7 ⟨sb, 0, none⟩ (.slice a6 nl c6))
      have hfin : KP Z sb (fun G => Pl.frd s G == 0) G (pre ++ [(i, g)]) (w7.setCell ⟨sb, 0, none⟩ (.slice a6 nl c6)) := ⟨(hB8.out.trans (.of_below hb7)).setCell (p := ⟨sb, 0, none⟩) (.inr rfl) _, by rw [hsnoc, hps]; exact hput⟩
      clear hB8 hSG8 HPv hb7 ho8 k08 hSG9 ho9 hput
      gi_wp2
      exact ⟨hk9.from _, hk9.walks⟩
  case done =>
    rintro E W hE ⟨hB, hSG⟩ hD
    rw [bs_len] at hSG
    have hXW := hX3.trans (hB.below (B := X.heap.size) hX3.size (fun k hk e => by omega))
    obtain ⟨FS, hFS⟩ : ∃ FS, Pl.prd (fun G => Pl.frd s G == 0) G G.length = FS := ⟨_, rfl⟩
    rw [hFS] at hSG
    have hFm : ∀ g ∈ FS, g ∈ Pl.signs L p := fun g hg => by rw [hGe]; rw [← hFS] at hg; exact Pl.prd_mem _ _ _ g hg
    have hFl : FS.length ≤ 16 := by rw [← hFS]; exact Nat.le_trans (Pl.prd_len _ _ _ (Nat.le_refl _)).2 (by rw [hnG]; exact hsl)
    have hPW : Pl.prvW s L p = FS.map (Pl.wlk L p) := by unfold Pl.prvW; rw [hGe, hFS]
    replace hPW := Lib.hid hPW
    obtain ⟨v0, d0, of0, _⟩ := hSG.v
    obtain ⟨lf, hlf⟩ : ∃ lf, FS.length = lf := ⟨_, rfl⟩
    rw [hlf] at of0 hFl
    obtain ⟨af, cf, hvf, hGf⟩ := sgs_of_owns hlf of0
    subst hvf
    have hEs : E < W.heap.size := (Array.getElem?_eq_some_iff.1 hD).1
    have hbW := hbw7.trans (hB.below (B := w.heap.size) hbw7.size (fun k hk e => by omega))
    have hEX : w.heap.size ≤ E := Nat.le_trans hbw7.size hE
    replace hFm := Lib.hid hFm
    replace hGf := Lib.hid hGf
    replace hD := Lib.hid hD
    clear hB hSG of0 hFS hS6 hM6 ho6 hSG6 z0 z1 k0 b0
    have hPL : Hid (PvL W W (.slice none 0 0) 0 (FS.map (Pl.wlk L p)) []) := Lib.hid ⟨World.ownsRow_nil _ _ _ _, rfl, fun i hi => by omega, Below.refl _ _⟩
    have hB0 := Pl.ways_ok hV.m6 hV.ok ⟨hV.p0, hV.pm⟩
    have hR0 := hB0.hd
    have hRl0 := (List.getElem?_eq_some_iff.1 hR0).1
    obtain ⟨x, rfl, hx0, hx1, hx2⟩ := hS1.out 0 (Pl.start p) (by rw [List.getElem?_map, hR0]; rfl)
    obtain ⟨kk, hM0⟩ := hM1.out
    have hRlen : Hid ((Pl.ways L p).length ≤ 96 ∧ ∀ e ∈ Pl.ways L p, e.2.length ≤ 96) := Lib.hid ⟨Pl.bf_len hV.m6 hV.ok ⟨hV.p0, hV.pm⟩ hB0, fun e he => by
      have h1 := ways_lens he
      have h2 := Pl.bf_len hV.m6 hV.ok ⟨hV.p0, hV.pm⟩ hB0
      omega⟩
    have hKS : Hid (∀ e ∈ Pl.ways L p, KS e.1) := Lib.hid (fun e he => by
      have h := Pl.bf_in hV.ok ⟨hV.p0, hV.pm⟩ hB0 he
      have := hV.m6
      exact ⟨⟨h.1.1, by omega⟩, h.2⟩)
    have HCl := Lib.hid (fun (t : Nat) (mm : Bool) (hg : (t, mm) ∈ Pl.signs L p) (V : World) (hb : Below X.heap.size X V) => closed_any x n1 c1 mb kk (by have := hn1.out; omega) f p t mm (Pl.ways L p) L _ (Lib.hid hB0) hA hKS hRlen (Pl.wlk L p (t, mm)) (Lib.hid (Pl.wlk_in hg)) V (kept1 hx0 hb) (kept1 hx1 hb) (kept1 hx2 hb) (hM0.below hb))
    obtain ⟨i0, hi, hz0', hz1', hz2'⟩ := info_parts infoInts
    clear hB0 hR0 hx0 hx1 hx2 hM0 hKS hRlen
    gi_wp2
    gi_loopw [50, 11] (fun iv v wr => ∃ (k : Nat) (xs : List Value), k ≤ lf ∧ iv = .int .i64 (k : Int) ∧ Hid (PvL W wr v k (FS.map (Pl.wlk L p)) xs)) (fun iv _ _ => lf - (RowKit.intOf iv).toNat)
    case atStart => exact ⟨0, [], Nat.zero_le _, rfl, hPL⟩
    case round =>
      clear hPL
      obtain ⟨k, xs, hk, rfl, hP⟩ := hrel
      by_cases hlt : k < lf
      · have i1 : (k : Int) < (lf : Int) := by omega
        have i2 : (0 : Int) ≤ (k : Int) := by omega
        have hkF : k < FS.length := by omega
        obtain ⟨y, rfl, hc0, hc1⟩ := hGf.out k hkF
        obtain ⟨t, mm, hz⟩ : ∃ t mm, FS.getD k (0, false) = (t, mm) := ⟨_, _, rfl⟩
        have hmem : (t, mm) ∈ Pl.signs L p := hFm.out _ (by rw [← hz, List.getD, List.getElem?_eq_getElem hkF]; exact List.getElem_mem hkF)
        have hWk : Hid ((FS.map (Pl.wlk L p)).getD k [] = Pl.wlk L p (t, mm)) := Lib.hid (by
          rw [List.getD, List.getElem?_map, List.getElem?_eq_getElem hkF]
          rw [List.getD, List.getElem?_eq_getElem hkF] at hz
          have : FS[k] = (t, mm) := hz
          rw [this]
          rfl)
        rw [hz] at hc0 hc1
        simp only at hc0 hc1
        replace hc0 := kept1 hc0 hP.out.b
        replace hc1 := kept1 hc1 hP.out.b
        have hXr := hXW.trans (hP.out.b.mono hXW.size)
        have hba := below_alloc (Below.refl wr.heap.size wr) (Obj.cells #[.int .i64 (t : Int), .bool mm] 38)
        have hXa := hXr.trans (hba.mono hXr.size)
        have HC1 := Lib.hid (HCl.out t mm hmem _ hXa)
        have q0 := kept1 zX0.out hXa
        have q1 := kept1 zX1.out hXa
        have s0 : (wr.alloc (Obj.cells #[.int .i64 (t : Int), .bool mm] 38)).cell? ⟨wr.heap.size, 0, none⟩ = some (.int .i64 (t : Int)) := by simp [go_sem]
        have s1 : (wr.alloc (Obj.cells #[.int .i64 (t : Int), .bool mm] 38)).cell? ⟨wr.heap.size, 1, none⟩ = some (.bool mm) := by simp [go_sem]
        have hP1 := Lib.hid (hP.out.below hba)
        have hvlt := hP.out.o.lt
        clear hXr hba hXa hmem hz hP
        gi_wp2_with fail
        refine ⟨trivial, ?_⟩
        refine (callsIn_wide.2 HC1.out).mono ?_
        rintro e w8 ⟨⟨bn, cn, rfl, hNs, hfr⟩, hb8⟩
        have hP2 := Lib.hid (hP1.out.below hb8)
        obtain ⟨ln, hln⟩ : ∃ ln, (Pl.wlk L p (t, mm)).length = ln := ⟨_, rfl⟩
        rw [hln]
        have o8 := hP2.out.o
        have hbs := hP2.out.b.size
        have hnb : ∀ y, bn = some y → y.block < w8.heap.size ∧ u11.ownBlock ≠ some y.block := fun y e => ⟨(hfr.out y e).2, fun e2 => by have h1 := (hvlt _ e2).2; have h2 := (hfr.out y e).1; simp at h2; omega⟩
        have hmo := Lib.hid (fun (W4 : World) (v' : Value) (o : Obj) => hP2.out.more (W4 := W4) (v' := v') (o := o) (b := bn) (n := ln) (c := cn) (by rw [hWk.out, hln]) (by rw [hWk.out]; exact hNs.out) hnb)
        clear HC1 q0 q1 s0 s1 hc0 hc1 hP1 hnb hvlt hfr hNs hP2 hln
        gi_wp2_with (first
          | (gi_at_builtin; refine wpListIn_append_own_at _ rfl (.tmp 54) (.tmp 58) 63 rfl W.heap.size 35 i0 (.slice none 0 0) 1 24 Tryd.underlying63 hi hz0' hz1' hz2' rfl (by decide) _ _ _ rfl (o8.alloc _) ⟨w8.heap.size, 0, none⟩ 1 1 [.slice bn ln cn] rfl rfl ?c1 ?c2 ?c3 ?c4 ?c5 ?_)
          | fail)
        case c1 =>
          intro j u hj
          match j, hj with
          | 0, hj => simp at hj; subst hj; simp [Addr.add]
        case c2 => intro u hu; simp at hu; subst hu; rfl
        case c3 => unfold maxLen; omega
        case c4 => omega
        case c5 => first | omega | (simp; omega)
        intro v' w9 hown' hgrow hnn hat
        have hP3 := Lib.hid (hmo.out _ _ _ hown' hgrow hat)
        clear hmo hown' hgrow hnn hat o8
        gi_wp2
        go_roundw
        case rel => exact ⟨k + 1, _, by omega, by go_num, hP3⟩
        case measure => first | (simp [RowKit.intOf]; done) | (simp [RowKit.intOf]; omega) | omega
      · obtain rfl : k = lf := by omega
        have i1 : ¬ (k : Int) < (k : Int) := by omega
        have ho := hP.out.o
        obtain ⟨av, cv, rfl, hcs, _⟩ := cs_of_owns ho
        have hEd := (hP.out.b.block _ hEs).trans hD.out
        gi_wp2
        refine leaves_marks [E] _ (by simp) (fun r hr => by simp at hr; subst hr; exact hEd) ?_
        have fb := freed_but [E] wr
        have hne : ∀ g, g ∈ [E] → ∀ o, wr.heap[g]? = some o → o.isCells = false := fun g hg o ho => by
          simp at hg
          subst hg
          rw [hEd] at ho
          obtain rfl := Option.some.inj ho
          rfl
        have hlW : (Pl.prvW s L p).length = k := by rw [hPW.out, List.length_map, hlf]
        refine ⟨_, by simp [results, Tryd.results34, go_sem], av, k, cv, rfl, Lib.hid hlW, Lib.hid (fun i hi2 => ?_), ?_⟩
        · rw [hlW] at hi2
          rw [hPW.out]
          obtain ⟨b, n, c, h1, h2, h3, _⟩ := hP.out.a i hi2
          obtain ⟨z, hz, hc⟩ := hcs i _ h1
          refine ⟨z, b, n, c, hz, fb.kept hc (fun e => ?_), h2, h3.but fb hne⟩
          have hlt := block_lt_of_cell hc
          have h4 := cells_of_cell hc (o := wr.heap[(z.add i).block]) (Array.getElem?_eq_getElem hlt)
          rw [hne _ e _ (Array.getElem?_eq_getElem hlt)] at h4
          cases h4
        · exact hbW.trans ((hP.out.b.mono hbW.size).trans (fb.below (Nat.le_trans hbW.size hP.out.b.size) (fun g hg e => by simp at e; omega)))
end Go.Proofs.YtmkjmpkicmadcaaDoor

/- Contracts of package plate: validHeights. -/
namespace Pl
def hfar (h : Int) : Bool := decide (h < -1099511627776 ∨ 1099511627776 < h)
end Pl
namespace Go.Proofs.YtmkjmpkicmadcaaDoor
open Go.RowKit

theorem any_atH {l : List Int} {k : Nat} (h : k < l.length) : (l.drop k).any Pl.hfar = (Pl.hfar (l.getD k 0) || (l.drop (k + 1)).any Pl.hfar) := by
  rw [List.drop_eq_getElem_cons h, List.any_cons]
  simp [List.getD, List.getElem?_eq_getElem h]

set_option maxHeartbeats 400000 in
theorem hfar_any (h : Int) (w : World) :
    Calls Tryd.prog 73 #[.int .i64 h] w fun e w' => e = .returned (.bool (Pl.hfar h)) ∧ w' = w := by
  by_cases h1 : h < -1099511627776
  · go_enter Tryd.func73, Tryd.ntmps73
    go_wp2
    go_ret
    exact ⟨ret_bool (decide_eq_true (.inl h1)).symm, rfl⟩
  · by_cases h2 : (1099511627776 : Int) < h
    · go_enter Tryd.func73, Tryd.ntmps73
      go_wp2
      go_ret
      exact ⟨ret_bool (decide_eq_true (.inr h2)).symm, rfl⟩
    · go_enter Tryd.func73, Tryd.ntmps73
      go_wp2
      go_ret
      exact ⟨ret_bool (decide_eq_false (fun h => by omega)).symm, rfl⟩

/-- the index that is found, or none -/
def IxhPost (w : World) (b : Bool) (e : Ending) (w' : World) : Prop := ∃ z : Int, e = .returned (.int .i64 z) ∧ (0 ≤ z ↔ b = true) ∧ w' = w

set_option maxRecDepth 100000 in
set_option maxHeartbeats 1000000 in
theorem indexHfar_any (a : Option Addr) (cap : Nat) (l : List Int) (m : Nat) (hm : Hid (l.length = m)) (hm2 : m ≤ 1000000) (b : Bool) (hb : Hid (l.any Pl.hfar = b)) (w : World) (hl : Hid (NsAt w a l)) :
    Calls Tryd.prog 84 #[.slice a m cap, .func (.func 73) #[] #[]] w (IxhPost w b) := by
  go_enter Tryd.func84, Tryd.ntmps84
  go_wp2
  go_loopw [8] (fun i wr => ∃ k : Nat, k ≤ m ∧ i = .int .i64 k ∧ wr = w ∧ Hid (l.any Pl.hfar = (l.drop k).any Pl.hfar)) (fun i _ => m - (RowKit.intOf i).toNat)
  case atStart => exact ⟨0, Nat.zero_le _, rfl, rfl, Lib.hid rfl⟩
  case round =>
    obtain ⟨k, hk, rfl, rfl, hany⟩ := hrel
    by_cases hlt : k < m
    · obtain ⟨x, rfl, hcx⟩ := hl.out k (by have := hm.out; omega)
      have hst := any_atH (l := l) (k := k) (by have := hm.out; omega)
      obtain ⟨z, hz⟩ : ∃ z, l.getD k 0 = z := ⟨_, rfl⟩
      rw [hz] at hcx hst
      clear hz
      have hi5 : (k : Int) < (m : Int) := by omega
      have HV := hfar_any z
      cases hv : Pl.hfar z
      · rw [hv] at HV hst
        replace HV := Lib.hid HV
        replace hst := Lib.hid hst
        go_wp2_with fail
        refine (HV.out _).mono ?_
        rintro e w1 ⟨rfl, hb1⟩
        subst hb1
        go_wp2
        go_roundw
        case rel => exact ⟨k + 1, by omega, by go_num, by first | rfl | trivial, Lib.hid (by rw [hany.out, hst.out]; simp)⟩
        case measure => first | (simp [RowKit.intOf]; done) | (simp [RowKit.intOf]; omega) | omega
      · rw [hv] at HV hst
        replace HV := Lib.hid HV
        replace hst := Lib.hid hst
        go_wp2_with fail
        refine (HV.out _).mono ?_
        rintro e w1 ⟨rfl, hb1⟩
        subst hb1
        go_wp2
        go_ret
        exact ⟨_, rfl, by rw [← hb.out, hany.out, hst.out]; simp, rfl⟩
    · obtain rfl : k = m := by omega
      have hi5 : ¬ (k : Int) < (k : Int) := by omega
      have hb9 : Hid (l.any Pl.hfar = false) := Lib.hid (by rw [hany.out, List.drop_eq_nil_of_le (by have := hm.out; omega)]; rfl)
      clear hany
      go_wp2
      go_ret
      exact ⟨-1, rfl, by rw [← hb.out, hb9.out]; simp, rfl⟩

set_option maxHeartbeats 400000 in
theorem containsHfar_any (a : Option Addr) (cap : Nat) (l : List Int) (m : Nat) (hm : Hid (l.length = m)) (hm2 : m ≤ 1000000) (w : World) (hl : Hid (NsAt w a l)) :
    Calls Tryd.prog 72 #[.slice a m cap, .func (.func 73) #[] #[]] w fun e w' => e = .returned (.bool (l.any Pl.hfar)) ∧ w' = w := by
  obtain ⟨b, hb⟩ : ∃ b, l.any Pl.hfar = b := ⟨_, rfl⟩
  rw [hb]
  have H := indexHfar_any a cap l m hm hm2 b (Lib.hid hb) w hl
  clear hb hl
  go_enter Tryd.func72, Tryd.ntmps72
  go_wp2_with fail
  refine H.mono ?_
  rintro e w1 ⟨z, rfl, hz, rfl⟩
  replace hz := Lib.hid hz
  go_wp2
  go_ret
  refine ⟨ret_bool ?_, rfl⟩
  have h := hz.out
  cases b
  · simp at h
    rw [decide_eq_false (by omega)]
  · simp at h
    rw [decide_eq_true (by omega)]

set_option maxRecDepth 100000 in
set_option maxHeartbeats 1000000 in
/-- validHeights -/
theorem pHeights_any (a : Option Addr) (cap : Nat) (l : List Int) (n : Int) (m : Nat) (hm : Hid (l.length = m)) (hm2 : m ≤ 1000000) (w : World) (hl : Hid (NsAt w a l)) :
    Calls Tryd.prog 54 #[.slice a m cap, .int .i64 n] w fun e w' => e = .returned (.bool (decide ((m : Int) = n) && !l.any Pl.hfar)) ∧ w' = w := by
  have HC := containsHfar_any a cap l m hm hm2
  by_cases h1 : (m : Int) = n
  · have n1 : ((m : Int) == n) = true := by simpa using h1
    rw [decide_eq_true h1]
    generalize l.any Pl.hfar = fb at *
    replace HC := Lib.hid HC
    subst h1
    go_enter Tryd.func54, Tryd.ntmps54
    go_wp2_with fail
    refine (HC.out _ hl).mono ?_
    rintro e w1 ⟨rfl, hw1⟩
    subst hw1
    go_wp2
    go_ret
    exact ⟨by cases fb <;> rfl, rfl⟩
  · have n1 : ((m : Int) == n) = false := by simpa using h1
    rw [decide_eq_false h1]
    clear HC
    go_enter Tryd.func54, Tryd.ntmps54
    go_wp2
    go_ret
    exact ⟨rfl, rfl⟩
end Go.Proofs.YtmkjmpkicmadcaaDoor

/- Contracts of package plate: spread. -/
namespace Pl
theorem pcs_twice (P : Nat → Nat → Int) (q y : Nat) (u v : Int) : pcs (pcs P q y u) q y v = pcs P q y v := by
  funext a c
  unfold pcs
  by_cases h1 : a = q <;> by_cases h2 : c = y <;> simp [h1, h2]
end Pl
namespace Go.Proofs.YtmkjmpkicmadcaaDoor
open Go.RowKit
attribute [local go_sem] Oper.semAt_some

/-- the world in spread -/
structure KS' (w W : World) (s : Int) (a : Option Addr) (n cap sb N cN mm kk : Nat) (rb : Nat → Nat) (P : Nat → Nat → Int) (rs : List Nat) : Prop where
  k0 : W.cell? ⟨w.heap.size, 0, none⟩ = some (.int .i64 s)
  k1 : W.cell? ⟨w.heap.size + 1, 0, none⟩ = some (.slice a n cap)
  k2 : W.cell? ⟨w.heap.size + 1 + 1, 0, none⟩ = some (.slice (some ⟨sb, 0, none⟩) N cN)
  k3 : W.cell? ⟨w.heap.size + 1 + 1 + 1 + 1, 0, none⟩ = some (.slice (some ⟨w.heap.size + 1 + 1 + 1, 0, none⟩) mm mm)
  mx : MX (w.heap.size + 5) W (w.heap.size + 1 + 1 + 1) mm N kk rb P
  b : Below w.heap.size w W
  mks : ∀ r ∈ rs, w.heap.size + 5 ≤ r ∧ W.heap[r]? = some (.deferred (some []))
theorem KS'.but {T : Nat → Prop} {w W W' : World} {s : Int} {a : Option Addr} {n cap sb N cN mm kk : Nat} {rb : Nat → Nat} {P : Nat → Nat → Int} {rs : List Nat} (h : KS' w W s a n cap sb N cN mm kk rb P rs) (hb : But T W W') (h0 : ∀ k, k < w.heap.size + 5 → ¬ T k) (h2 : ∀ i, i < kk → ¬ T (rb i)) (hm : ∀ r ∈ rs, ¬ T r) : KS' w W' s a n cap sb N cN mm kk rb P rs :=
  ⟨hb.kept h.k0 (h0 _ (by simp only; omega)), hb.kept h.k1 (h0 _ (by simp only; omega)), hb.kept h.k2 (h0 _ (by simp only; omega)), hb.kept h.k3 (h0 _ (by simp only; omega)), h.mx.but hb (h0 _ (by omega)) h2, h.b.trans (hb.below h.b.size (fun k hk => h0 k (by omega))), fun r hr => ⟨(h.mks r hr).1, (hb.block r (Array.getElem?_eq_some_iff.1 (h.mks r hr).2).1 (hm r hr)).trans (h.mks r hr).2⟩⟩
theorem KS'.below {w W W' : World} {s : Int} {a : Option Addr} {n cap sb N cN mm kk : Nat} {rb : Nat → Nat} {P : Nat → Nat → Int} {rs : List Nat} (h : KS' w W s a n cap sb N cN mm kk rb P rs) (hb : Below W.heap.size W W') : KS' w W' s a n cap sb N cN mm kk rb P rs :=
  h.but (T := fun _ => False) ((But.of_below hb).mono (fun _ _ h => h)) (fun _ _ h => h) (fun _ _ h => h) (fun _ _ h => h)
theorem KS'.put {w W : World} {s : Int} {a : Option Addr} {n cap sb N cN mm kk : Nat} {rb : Nat → Nat} {P : Nat → Nat → Int} {rs : List Nat} (h : KS' w W s a n cap sb N cN mm kk rb P rs) {q : Nat} (hq : q < kk) (y : Nat) (v : Int) : KS' w (W.setCell ⟨rb q, y, none⟩ (.int .i64 v)) s a n cap sb N cN mm kk rb (Pl.pcs P q y v) rs := by
  have hs : But (fun g => g = rb q) W (W.setCell ⟨rb q, y, none⟩ (.int .i64 v)) := (But.refl (fun g => g = rb q) W).setCell (p := ⟨rb q, y, none⟩) (.inr rfl) _
  have hB := h.mx.q q hq
  have f : ∀ k, k < w.heap.size + 5 → ¬ k = rb q := fun k hk e => by omega
  refine ⟨hs.kept h.k0 (f _ (by simp only; omega)), hs.kept h.k1 (f _ (by simp only; omega)), hs.kept h.k2 (f _ (by simp only; omega)), hs.kept h.k3 (f _ (by simp only; omega)), h.mx.put hq y v, h.b.trans (hs.below h.b.size (fun k hk => f k (by omega))), fun r hr => ⟨(h.mks r hr).1, (hs.block r (Array.getElem?_eq_some_iff.1 (h.mks r hr).2).1 (fun e => ?_)).trans (h.mks r hr).2⟩⟩
  obtain ⟨cs, h1, _⟩ := h.mx.r q hq
  have h2 := (h.mks r hr).2
  rw [e, h1] at h2
  cases h2
theorem KS'.mark {w W : World} {s : Int} {a : Option Addr} {n cap sb N cN mm kk : Nat} {rb : Nat → Nat} {P : Nat → Nat → Int} {rs : List Nat} (h : KS' w W s a n cap sb N cN mm kk rb P rs) {E : Nat} (hE : w.heap.size + 5 ≤ E) (hD : W.heap[E]? = some (.deferred (some []))) : KS' w W s a n cap sb N cN mm kk rb P (E :: rs) :=
  ⟨h.k0, h.k1, h.k2, h.k3, h.mx, h.b, fun r hr => (List.mem_cons.1 hr).elim (fun e => e ▸ ⟨hE, hD⟩) (h.mks r)⟩

theorem st_cellsS {W : World} {b : Nat} {y : Pl.St} (h : SA W b y) : W.cell? ⟨b, 0, none⟩ = some (.int .i64 y.p) ∧ W.cell? ⟨b, 1, none⟩ = some (.int .i64 (y.t : Int)) ∧ W.cell? ⟨b, 2, none⟩ = some (.bool y.m) ∧ True := by
  have e0 := h.cell (i := 0) (by omega)
  have e1 := h.cell (i := 1) (by omega)
  have e2 := h.cell (i := 2) (by omega)
  simp only [if_true, if_false, Nat.succ_ne_self, Nat.reduceEqDiff] at e0 e1 e2
  exact ⟨e0, e1, e2, trivial⟩
/-- what the loop over a state's cells keeps -/
def KJ (w : World) (S : Nat) (s : Int) (a : Option Addr) (n cap sb N cN mm : Nat) (rb : Nat → Nat) (P : Nat → Nat → Int) (sh : Nat → Int) (ab b2 b5 sn : Nat) (y : Pl.St) (rs : List Nat) (pre : List (Nat × Nat)) (W : World) : Prop :=
  KS' w W s a n cap sb N cN mm mm rb (Pl.sprM sh y.p.toNat y.m P pre) rs ∧ SA W ab y ∧ MK b2 b5 sn y.t W ∧ (∀ r ∈ rs, r < S) ∧ (∀ i, i < mm → rb i < S) ∧ w.heap.size + 5 ≤ S
theorem kj_own (w : World) (S : Nat) (s : Int) (a : Option Addr) (n cap sb N cN mm : Nat) (rb : Nat → Nat) (P : Nat → Nat → Int) (sh : Nat → Int) (ab b2 b5 sn : Nat) (y : Pl.St) (rs : List Nat) : OwnFrom S (KJ w S s a n cap sb N cN mm rb P sh ab b2 b5 sn y rs) := by
  intro pre W W' row ⟨h1, h2, h3, h4, h5, h6⟩ hg hr
  have hr2 : ∀ r, row = some r → ∃ o : Obj, W.heap[r]? = some o ∧ o.isCells = false := fun r e => (hr r e).2
  have far : ∀ k, k < S → ¬ row = some k := fun k hk e => by have := (hr k e).1; omega
  have hab : ¬ row = some ab := fun e => by
    obtain ⟨o, ho, hc⟩ := hr2 _ e
    obtain ⟨cs, hh, _⟩ := h2
    rw [ho] at hh
    obtain rfl := Option.some.inj hh
    simp [Obj.isCells] at hc
  exact ⟨h1.but (butGrown hg) (fun k hk => far k (by omega)) (fun i hi => far _ (h5 i hi)) (fun r hm => far r (h4 r hm)), (butGrown hg).row h2 hab, ⟨cellGrown hg hr2 h3.c, cellGrown hg hr2 h3.f0, cellGrown hg hr2 h3.f1⟩, h4, h5, h6⟩

/-- what spread leaves -/
def SpPost (w : World) (N mm : Nat) (P : Nat → Nat → Int) (e : Ending) (w' : World) : Prop :=
  ∃ pb B rb, e = .returned (.slice (some ⟨pb, 0, none⟩) mm mm) ∧ Hid (MX B w' pb mm N mm rb P) ∧ w.heap.size ≤ pb ∧ Below w.heap.size w w'

set_option maxRecDepth 100000 in
set_option maxHeartbeats 8000000 in
theorem spread_any (s : Nat) (h1 : 1 ≤ s) (h6 : s ≤ 6) (mm : Nat) (hm6 : mm ≤ 6) (a0 : Option Addr) (q0 cap0 : Nat) (a : Option Addr) (n cap mb : Nat) (Y : List Pl.St) (hn : Hid (Y.length = n)) (hn2 : n ≤ 96) (hY : Hid (∀ y ∈ Y, (0 ≤ y.p ∧ y.p < (mm : Int)) ∧ y.t < 8)) (sb N cN : Nat) (hN : s * s = N) (sh : Nat → Int) (hsr : Hid (∀ c, c < N → -4503599627370496 ≤ sh c ∧ sh c ≤ 4503599627370496)) (w : World) (hS : Hid (StsAt w a Y)) (hR : Hid (RowF w sb N sh)) :
    Calls Tryd.prog 55 #[.agg #[.int .i64 (s : Int), .int .i64 (mm : Int), .slice a0 q0 cap0], .agg #[.slice a n cap, .map (some mb)], .slice (some ⟨sb, 0, none⟩) N cN] w (SpPost w N mm (Pl.spr s sh (fun _ _ => 0) Y)) := by
  have hs3 : N ≤ 36 := by rw [← hN]; exact Nat.mul_le_mul h6 h6
  have hmk1 := Lib.hid (mkTable mm (by omega))
  have hmk2 := Lib.hid (mkInts N (by omega))
  refine (callsIn_wide (n := 7)).1 ?_
  refine callsIn_of_wp_marks Tryd.func55 rfl trivial ?_ rfl
  simp only [Tryd.ntmps55, List.size_toArray, List.length_cons, List.length_nil, Nat.reduceAdd, Nat.reduceSub, Array.replicate_succ, Array.replicate_zero, List.push_toArray, List.append_toArray, List.nil_append, List.cons_append]
  gi_upto_region 1 with fail
  have hmk := hmk1.out
  gi_upto_region 2 with fail
  clear hmk hmk1
  have hz3 : (((w.alloc (Obj.cells #[.int .i64 (s : Int), .int .i64 (mm : Int), .slice a0 q0 cap0] 34)).alloc (Obj.cells #[.slice a n cap, .map (some mb)] 88)).alloc (Obj.cells #[.slice (some ⟨sb, 0, none⟩) N cN] 35)).heap.size = w.heap.size + 1 + 1 + 1 := by simp
  have hK0 : Hid (KS' w (((((w.alloc (Obj.cells #[.int .i64 (s : Int), .int .i64 (mm : Int), .slice a0 q0 cap0] 34)).alloc (Obj.cells #[.slice a n cap, .map (some mb)] 88)).alloc (Obj.cells #[.slice (some ⟨sb, 0, none⟩) N cN] 35)).alloc (Obj.cells (madeCells #[.slice none 0 0] mm) 35)).alloc (Obj.cells #[.slice (some ⟨w.heap.size + 1 + 1 + 1, 0, none⟩) mm mm] 63)) (s : Int) a n cap sb N cN mm 0 (fun _ => 0) (fun _ _ => 0) []) := Lib.hid ⟨by simp [go_sem], by simp [go_sem], by simp [go_sem], by simp [go_sem], by
      have h := MX.start (((w.alloc (Obj.cells #[.int .i64 (s : Int), .int .i64 (mm : Int), .slice a0 q0 cap0] 34)).alloc (Obj.cells #[.slice a n cap, .map (some mb)] 88)).alloc (Obj.cells #[.slice (some ⟨sb, 0, none⟩) N cN] 35)) (w.heap.size + 5) mm N (by rw [hz3]; omega) (fun _ => 0) (fun _ _ => 0)
      rw [hz3] at h
      exact h.below (below_alloc (Below.refl _ _) _), below_alloc (below_alloc (below_alloc (below_alloc (below_alloc (Below.refl _ _) _) _) _) _) _, fun r hr => by cases hr⟩
  have hsz0 : w.heap.size + 5 ≤ (((((w.alloc (Obj.cells #[.int .i64 (s : Int), .int .i64 (mm : Int), .slice a0 q0 cap0] 34)).alloc (Obj.cells #[.slice a n cap, .map (some mb)] 88)).alloc (Obj.cells #[.slice (some ⟨sb, 0, none⟩) N cN] 35)).alloc (Obj.cells (madeCells #[.slice none 0 0] mm) 35)).alloc (Obj.cells #[.slice (some ⟨w.heap.size + 1 + 1 + 1, 0, none⟩) mm mm] 63)).heap.size := by simp
  clear hz3
  generalize ((((w.alloc (Obj.cells #[.int .i64 (s : Int), .int .i64 (mm : Int), .slice a0 q0 cap0] 34)).alloc (Obj.cells #[.slice a n cap, .map (some mb)] 88)).alloc (Obj.cells #[.slice (some ⟨sb, 0, none⟩) N cN] 35)).alloc (Obj.cells (madeCells #[.slice none 0 0] mm) 35)).alloc (Obj.cells #[.slice (some ⟨w.heap.size + 1 + 1 + 1, 0, none⟩) mm mm] 63) = X0 at *
  have k3 := hK0.out.k3
  gi_wp2
  clear k3
  gi_loopw [18] (fun iv wr => ∃ (k : Nat) (rb : Nat → Nat), k ≤ mm ∧ iv = .int .i64 (k : Int) ∧ Hid (KS' w wr (s : Int) a n cap sb N cN mm k rb (fun _ _ => 0) []) ∧ w.heap.size + 5 ≤ wr.heap.size) (fun iv _ => mm - (RowKit.intOf iv).toNat)
  case atStart => exact ⟨0, _, Nat.zero_le _, rfl, hK0, hsz0⟩
  case round =>
    clear hK0 hsz0
    clear X0
    obtain ⟨k, rb, hk, rfl, hK, hsz⟩ := hrel
    by_cases hlt : k < mm
    · have i1 : (k : Int) < (mm : Int) := by omega
      have i2 : (0 : Int) ≤ (k : Int) := by omega
      have k2 := hK.out.k2
      have k3 := hK.out.k3
      have hmk := hmk2.out
      have d0 := hK.out.mx.p.cell (i := k) hlt
      have df := hK.out.mx.p.frozen k
      simp only [Nat.lt_irrefl, if_false] at d0
      have hn9 : Hid (KS' w ((wr.alloc (Obj.cells (madeCells #[.int .i64 0] N) 3)).setCell ⟨w.heap.size + 1 + 1 + 1, k, none⟩ (.slice (some ⟨wr.heap.size, 0, none⟩) N N)).drew (s : Int) a n cap sb N cN mm (k + 1) (fun i => if i = k then wr.heap.size else rb i) (fun _ _ => 0) []) := Lib.hid (KS'.below (by
        have hbA := below_alloc (Below.refl wr.heap.size wr) (Obj.cells (madeCells #[.int .i64 0] N) 3)
        have hA := hK.out.below hbA
        have hs9 : But (fun g => g = w.heap.size + 1 + 1 + 1) (wr.alloc (.cells (madeCells #[.int .i64 0] N) 3)) ((wr.alloc (.cells (madeCells #[.int .i64 0] N) 3)).setCell ⟨w.heap.size + 1 + 1 + 1, k, none⟩ (.slice (some ⟨wr.heap.size, 0, none⟩) N N)) := (But.refl (fun g => g = w.heap.size + 1 + 1 + 1) _).setCell (p := ⟨w.heap.size + 1 + 1 + 1, k, none⟩) (.inr rfl) _
        exact ⟨hs9.kept hA.k0 (by simp only; omega), hs9.kept hA.k1 (by simp only; omega), hs9.kept hA.k2 (by simp only; omega), hs9.kept hA.k3 (by simp only; omega), hK.out.mx.more hlt hsz, hA.b.trans (hs9.below hA.b.size (fun g hg e => by omega)), fun r hr => by cases hr⟩) (Below.refl _ _).drew)
      have k2A := cell_alloc k2 (Obj.cells (madeCells #[.int .i64 0] N) 3)
      have k3A := cell_alloc k3 (Obj.cells (madeCells #[.int .i64 0] N) 3)
      have d0A := cell_alloc d0 (Obj.cells (madeCells #[.int .i64 0] N) 3)
      have dfA : (wr.alloc (Obj.cells (madeCells #[.int .i64 0] N) 3)).frozen? ⟨w.heap.size + 1 + 1 + 1, k, none⟩ = false := ((below_alloc (Below.refl wr.heap.size wr) _).frozen (p := ⟨w.heap.size + 1 + 1 + 1, k, none⟩) (by simp only; omega)).trans df
      have hz9 : w.heap.size + 5 ≤ ((wr.alloc (Obj.cells (madeCells #[.int .i64 0] N) 3)).setCell ⟨w.heap.size + 1 + 1 + 1, k, none⟩ (.slice (some ⟨wr.heap.size, 0, none⟩) N N)).drew.heap.size := by simp; omega
      clear hK
      gi_wp2
      gi_region
      gi_wp2
      go_roundw
      case rel => exact ⟨k + 1, _, by omega, by go_num, hn9, hz9⟩
      case measure => first | (simp [RowKit.intOf]; done) | (simp [RowKit.intOf]; omega) | omega
    · obtain rfl : k = mm := by omega
      have i1 : ¬ (k : Int) < (k : Int) := by omega
      clear hmk2
      have k1 := hK.out.k1
      gi_wp2
      rename_i K0 hK0
      generalize hQ0 : Exit.inBlock 2 _ = Q0
      replace hQ0 := Lib.hid hQ0
      replace hK0 := Lib.hid hK0
      refine wpIn_loop_ghost_k (fun gk a' W => ∃ (v9 v10 v11 v12 v32 v33 v34 v35 v36 v37 v38 v39 v40 v41 v42 v43 v44 v45 v46 v47 v48 v49 v50 v51 v52 v53 v54 v55 v56 v57 v58 v59 v60 v61 v62 v63 v64 v65 v66 v67 v68 v69 v70 : Value) (j : Nat) (rs : List Nat), (j ≤ n ∧ gk = n - j ∧ Hid rs.Nodup ∧ Hid (KS' w W (s : Int) a n cap sb N cN k k rb (Pl.spr s sh (fun _ _ => 0) (Y.take j)) rs) ∧ w.heap.size + 5 ≤ W.heap.size) ∧ a' = { tmps := #[.agg #[.int .i64 (s : Int), .int .i64 (k : Int), .slice a0 q0 cap0], .agg #[.slice a n cap, .map (some mb)], .slice (some ⟨sb, 0, none⟩) N cN, .pointer (some ⟨w.heap.size, 0, none⟩), .pointer (some ⟨w.heap.size + 1, 0, none⟩), .pointer (some ⟨w.heap.size + 1 + 1, 0, none⟩), .slice none 0 0, .pointer (some ⟨w.heap.size + 1 + 1 + 1 + 1, 0, none⟩), u8, v9, v10, v11, v12, .pointer (some ⟨w.heap.size, 1, none⟩), .int .i64 (k : Int), .slice (some ⟨w.heap.size + 1 + 1 + 1, 0, none⟩) k k, .slice (some ⟨w.heap.size + 1 + 1 + 1, 0, none⟩) k k, .int .i64 (k : Int), .int .i64 (k : Int), .bool false, u20, u21, u22, u23, u24, u25, u26, u27, .pointer (some ⟨w.heap.size + 1, 0, none⟩), .slice a n cap, .int .i64 (n : Int), .int .i64 (j : Int), v32, v33, v34, v35, v36, v37, v38, v39, v40, v41, v42, v43, v44, v45, v46, v47, v48, v49, v50, v51, v52, v53, v54, v55, v56, v57, v58, v59, v60, v61, v62, v63, v64, v65, v66, v67, v68, v69, v70], defers := marks rs }) n ?_ ?_
      · exact ⟨_, _, _, _, _, _, _, _, _, _, _, _, _, _, _, _, _, _, _, _, _, _, _, _, _, _, _, _, _, _, _, _, _, _, _, _, _, _, _, _, _, _, _, 0, [], ⟨Nat.zero_le _, by omega, Lib.hid List.nodup_nil, hK, hsz⟩, rfl⟩
      · clear hK hsz
        clear k1 wr
        rintro gk _ wq ⟨v9, v10, v11, v12, v32, v33, v34, v35, v36, v37, v38, v39, v40, v41, v42, v43, v44, v45, v46, v47, v48, v49, v50, v51, v52, v53, v54, v55, v56, v57, v58, v59, v60, v61, v62, v63, v64, v65, v66, v67, v68, v69, v70, j, rs, ⟨hj, rfl, HN, HS, hsz⟩, rfl⟩ J K hJ hK
        replace hJ := Lib.hid hJ
        replace hK := Lib.hid hK
        by_cases hlt : j < n
        · have hjl : j < Y.length := by have := hn.out; omega
          obtain ⟨⟨yp, t, m⟩, hz⟩ : ∃ y, Y[j]? = some y := ⟨_, List.getElem?_eq_getElem hjl⟩
          obtain ⟨x, rfl, hc0, hc1, hc2⟩ := hS.out j _ hz
          have hyy := hY.out _ (List.mem_of_getElem? hz)
          simp only at hyy hc0 hc1 hc2
          obtain ⟨qn, rfl⟩ : ∃ qn : Nat, yp = (qn : Int) := ⟨yp.toNat, by omega⟩
          have hqn : qn < k := by omega
          have ht : t < 8 := hyy.2
          have htk : Hid (Y.take (j + 1) = Y.take j ++ [⟨(qn : Int), t, m⟩]) := Lib.hid (by rw [List.take_add_one, hz]; rfl)
          clear hyy hz
          replace hc0 := kept1 hc0 HS.out.b
          replace hc1 := kept1 hc1 HS.out.b
          replace hc2 := kept1 hc2 HS.out.b
          have hi5 : (j : Int) < (n : Int) := by omega
          have hi6 : (0 : Int) ≤ (j : Int) := by omega
          have HM := Lib.hid (fun W => moves_any s t ht W)
          cases m
          · have hbX := below_alloc (Below.refl wq.heap.size wq) (Obj.cells #[.int .i64 (qn : Int), .int .i64 (t : Int), .bool false] 80)
            have hX1 : (wq.alloc (Obj.cells #[.int .i64 (qn : Int), .int .i64 (t : Int), .bool false] 80)).cell? ⟨wq.heap.size, 1, none⟩ = some (.int .i64 (t : Int)) := by simp [go_sem]
            have hSX := Lib.hid (sa_new wq ⟨(qn : Int), t, false⟩)
            have hKX := Lib.hid (HS.out.below hbX)
            have hX0 := hKX.out.k0
            gi_wp2_with fail
            refine ⟨trivial, ?_⟩
            refine (callsIn_wide.2 (HM.out _)).mono ?_
            rintro e w2 ⟨b2, b5, rfl, hMK, hb2, hs2', hs5'⟩
            have HS2 := Lib.hid (hKX.out.below hb2)
            have hS2 := Lib.hid (hSX.out.below hb2)
            have hmk := HS2.out.mks
            have hrs : Hid (∀ r ∈ rs, r < w2.heap.size) := Lib.hid (fun r hr => (Array.getElem?_eq_some_iff.1 (hmk r hr).2).1)
            have hrb : Hid (∀ i, i < k → rb i < w2.heap.size) := Lib.hid (fun i hi => (HS2.out.mx.r i hi).lt)
            have hsz2 : w.heap.size + 5 ≤ w2.heap.size := by have := hb2.size; simp at this; omega
            have hrb3 : Hid (∀ i, i < k → rb i < wq.heap.size) := Lib.hid (fun i hi => (HS.out.mx.r i hi).lt)
            have hb25 : wq.heap.size + 1 ≤ b2 ∧ wq.heap.size + 1 ≤ b5 := by simp at hs2' hs5'; omega
            clear HM hbX hX0 hX1 hSX hKX hb2 hs2' hs5' hmk HS hc0 hc1 hc2
            gi_wp2_with fail
            refine range_nextV (enc := mvV) (n := 7) (hps := fun _ => rfl) (by omega) (gf := 82) (lb := #[.pointer (some ⟨b2, 0, none⟩), .pointer (some ⟨b5, 0, none⟩)]) rfl (enters_of Tryd.func82 (by kernel_rfl) rfl)
              (moves_hands 6 (by omega) b2 b5 s t ht h1 h6 w2) (Below.refl _ _)
              (KJ w w2.heap.size (s : Int) (some x) n cap sb N cN k rb (Pl.spr s sh (fun _ _ => 0) (Y.take j)) sh wq.heap.size b2 b5 s ⟨(qn : Int), t, false⟩ rs) (fun _ _ => False) (kj_own _ _ _ _ _ _ _ _ _ _ _ _ _ _ _ _ _ _ _) (fun _ _ _ _ h _ _ => h) ?keep ?init ?a1false ?assign ?body ?done ?stop
            case keep => exact fun pre W h => h.2.2.1
            case init => exact ⟨HS2.out, hS2.out, hMK.out, hrs.out, hrb.out, hsz2⟩
            case assign =>
              intro l x W K' hK'
              simp only [mvV] at hK' ⊢
              gi_wp2
              exact hK'
            case stop => exact fun _ _ _ _ _ h _ => h.elim
            case body =>
              rintro l pre ⟨c, d⟩ W ⟨g1, g2, g3, g4, g5, g6⟩ hpre
              have hmem : (c, d) ∈ Pl.mvs s t (s * s) := hpre.subset (by simp)
              obtain ⟨hc, hd⟩ := Pl.mvs_mem hmem
              simp only at hc hd
              have hd2 : d < s * s := by rw [hd]; exact Pl.tk_lt h6 hc ht
              rw [hN] at hc hd2
              have hsn := Lib.hid (Pl.sprM_snoc sh qn false (Pl.spr s sh (fun _ _ => 0) (Y.take j)) pre (c, d))
              simp only [Int.toNat_natCast] at g1
              obtain ⟨Q, hQ⟩ : ∃ Q, Pl.sprM sh qn false (Pl.spr s sh (fun _ _ => 0) (Y.take j)) pre = Q := ⟨_, rfl⟩
              rw [hQ] at g1 hsn
              have hrow := g1.mx.r qn hqn
              have x0 := g1.k2
              have x1 := g1.k3
              have x2 := g1.mx.p.cell (i := qn) hqn
              simp only [hqn, if_true] at x2
              have x3 := hrow.cell (i := d) hd2
              have x4 := hrow.frozen d
              obtain ⟨x5, _⟩ := (hR.out.below g1.b) c hc
              obtain ⟨y0, y1, y2, _⟩ := st_cellsS g2
              simp only at y0 y1 y2
              have i1 : (0 : Int) ≤ (qn : Int) := by omega
              have i2 : (qn : Int) < (k : Int) := by omega
              have i3 : (0 : Int) ≤ (c : Int) := by omega
              have i4 : (c : Int) < (N : Int) := by omega
              have i5 : (0 : Int) ≤ (d : Int) := by omega
              have i6 : (d : Int) < (N : Int) := by omega
              have HI := Lib.hid (And.intro g1 (And.intro g2 g3))
              clear g1 g2 g3 hmem hpre HS2 hS2 hMK hQ hrow hd
              gi_wp2_with fail
              refine tail_round 11 (fun ⟨_, _, h⟩ => h) rfl (by kernel_rfl) (by kernel_rfl) ?_
              simp only [List.take_succ_cons, List.take_zero, List.drop_succ_cons, List.drop_zero]
              change wpStill _ _ W.drew (fun a' => wpList _ _ _ _ a' W.drew) _ _
              have X0 : W.drew.cell? ⟨w.heap.size + 1 + 1, 0, none⟩ = some (.slice (some ⟨sb, 0, none⟩) N cN) := x0
              have X1 : W.drew.cell? ⟨w.heap.size + 1 + 1 + 1 + 1, 0, none⟩ = some (.slice (some ⟨w.heap.size + 1 + 1 + 1, 0, none⟩) k k) := x1
              have X2 : W.drew.cell? ⟨w.heap.size + 1 + 1 + 1, qn, none⟩ = some (.slice (some ⟨rb qn, 0, none⟩) N N) := x2
              have X3 : W.drew.cell? ⟨rb qn, d, none⟩ = some (.int .i64 (Q qn d)) := x3
              have X4 : W.drew.frozen? ⟨rb qn, d, none⟩ = false := x4
              have X5 : W.drew.cell? ⟨sb, c, none⟩ = some (.int .i64 (sh c)) := x5
              have X6 : W.drew.cell? ⟨wq.heap.size, 0, none⟩ = some (.int .i64 (qn : Int)) := y0
              have X7 : W.drew.cell? ⟨wq.heap.size, 2, none⟩ = some (.bool false) := y2
              have HV := Lib.hid ((HI.out.1.below (Below.refl _ _).drew).put hqn d (sh c))
              have HA := Lib.hid ((HI.out.2.1.below (Below.refl W.heap.size W).drew))
              have hKA : KeepsOthers W W.drew := KeepsOthers.drew _
              have hMd : MK b2 b5 s t W.drew := ⟨HI.out.2.2.c, HI.out.2.2.f0, HI.out.2.2.f1⟩
              have hrb4 := hrb3.out qn hqn
              clear x0 x1 x2 x3 x4 x5 y0 y1 y2 HI
              generalize W.drew = Z at *
              have hs9 : But (fun g => g = rb qn) Z (Z.setCell ⟨rb qn, d, none⟩ (.int .i64 (sh c))) := (But.refl (fun g => g = rb qn) Z).setCell (p := ⟨rb qn, d, none⟩) (.inr rfl) _
              have HA2 := Lib.hid (hs9.row HA.out (fun e => by have e' : wq.heap.size = rb qn := e; omega))
              have hM2 : MK b2 b5 s t (Z.setCell ⟨rb qn, d, none⟩ (.int .i64 (sh c))) := ⟨hs9.kept hMd.c (fun e => by simp only at e; omega), hs9.kept hMd.f0 (fun e => by simp only at e; omega), hs9.kept hMd.f1 (fun e => by simp only at e; omega)⟩
              have Y2 : (Z.setCell ⟨rb qn, d, none⟩ (.int .i64 (sh c))).cell? ⟨wq.heap.size, 2, none⟩ = some (.bool false) := hs9.kept X7 (fun e => by simp only at e; omega)
              repeat still_step
              refine wpStill_nil ?_
              clear X0 X1 X2 X5 X6 X7
              go_wp2
              gi_wp2
              have hk9 : KeepsOthers W (Z.setCell ⟨rb qn, d, none⟩ (.int .i64 (sh c))) := hKA.trans (KeepsOthers.setCell _ _ _)
              exact ⟨hk9.from _, hk9.walks, by simp only [Int.toNat_natCast]; rw [hsn.out]; exact HV.out, HA2.out, hM2, g4, g5, g6⟩
            case done =>
              rintro E W hE ⟨g1, _, _, g4, _, _⟩ hD
              have hne : E ∉ rs := fun hm => by have := g4 E hm; omega
              have hzE : w.heap.size + 5 ≤ W.heap.size := by have := (Array.getElem?_eq_some_iff.1 hD).1; omega
              have e9 : Pl.sprM sh (⟨(qn : Int), t, false⟩ : Pl.St).p.toNat (⟨(qn : Int), t, false⟩ : Pl.St).m (Pl.spr s sh (fun _ _ => 0) (Y.take j)) (Pl.mvs s t (s * s)) = Pl.spr s sh (fun _ _ => 0) (Y.take (j + 1)) := by rw [htk.out, Pl.spr_snoc]
              have g1' := g1
              rw [e9] at g1'
              have HE := Lib.hid (g1'.mark (E := E) (by omega) hD)
              clear g1 g1' HS2 hS2 hMK e9
              gi_wp2
              refine hK.out _ _ (Handed.intro (n - (j + 1)) (by omega) (hJ.out _ _ _ ?_))
              exact ⟨_, _, _, _, _, _, _, _, _, _, _, _, _, _, _, _, _, _, _, _, _, _, _, _, _, _, _, _, _, _, _, _, _, _, _, _, _, _, _, _, _, _, _, j + 1, E :: rs, ⟨by omega, rfl, Lib.hid (List.nodup_cons.2 ⟨hne, HN.out⟩), HE, hzE⟩, rfl⟩
          · have hbX := below_alloc (Below.refl wq.heap.size wq) (Obj.cells #[.int .i64 (qn : Int), .int .i64 (t : Int), .bool true] 80)
            have hX1 : (wq.alloc (Obj.cells #[.int .i64 (qn : Int), .int .i64 (t : Int), .bool true] 80)).cell? ⟨wq.heap.size, 1, none⟩ = some (.int .i64 (t : Int)) := by simp [go_sem]
            have hSX := Lib.hid (sa_new wq ⟨(qn : Int), t, true⟩)
            have hKX := Lib.hid (HS.out.below hbX)
            have hX0 := hKX.out.k0
            gi_wp2_with fail
            refine ⟨trivial, ?_⟩
            refine (callsIn_wide.2 (HM.out _)).mono ?_
            rintro e w2 ⟨b2, b5, rfl, hMK, hb2, hs2', hs5'⟩
            have HS2 := Lib.hid (hKX.out.below hb2)
            have hS2 := Lib.hid (hSX.out.below hb2)
            have hmk := HS2.out.mks
            have hrs : Hid (∀ r ∈ rs, r < w2.heap.size) := Lib.hid (fun r hr => (Array.getElem?_eq_some_iff.1 (hmk r hr).2).1)
            have hrb : Hid (∀ i, i < k → rb i < w2.heap.size) := Lib.hid (fun i hi => (HS2.out.mx.r i hi).lt)
            have hsz2 : w.heap.size + 5 ≤ w2.heap.size := by have := hb2.size; simp at this; omega
            have hrb3 : Hid (∀ i, i < k → rb i < wq.heap.size) := Lib.hid (fun i hi => (HS.out.mx.r i hi).lt)
            have hb25 : wq.heap.size + 1 ≤ b2 ∧ wq.heap.size + 1 ≤ b5 := by simp at hs2' hs5'; omega
            clear HM hbX hX0 hX1 hSX hKX hb2 hs2' hs5' hmk HS hc0 hc1 hc2
            gi_wp2_with fail
            refine range_nextV (enc := mvV) (n := 7) (hps := fun _ => rfl) (by omega) (gf := 82) (lb := #[.pointer (some ⟨b2, 0, none⟩), .pointer (some ⟨b5, 0, none⟩)]) rfl (enters_of Tryd.func82 (by kernel_rfl) rfl)
              (moves_hands 6 (by omega) b2 b5 s t ht h1 h6 w2) (Below.refl _ _)
              (KJ w w2.heap.size (s : Int) (some x) n cap sb N cN k rb (Pl.spr s sh (fun _ _ => 0) (Y.take j)) sh wq.heap.size b2 b5 s ⟨(qn : Int), t, true⟩ rs) (fun _ _ => False) (kj_own _ _ _ _ _ _ _ _ _ _ _ _ _ _ _ _ _ _ _) (fun _ _ _ _ h _ _ => h) ?keep ?init ?a1true ?assign ?body ?done ?stop
            case keep => exact fun pre W h => h.2.2.1
            case init => exact ⟨HS2.out, hS2.out, hMK.out, hrs.out, hrb.out, hsz2⟩
            case assign =>
              intro l x W K' hK'
              simp only [mvV] at hK' ⊢
              gi_wp2
              exact hK'
            case stop => exact fun _ _ _ _ _ h _ => h.elim
            case body =>
              rintro l pre ⟨c, d⟩ W ⟨g1, g2, g3, g4, g5, g6⟩ hpre
              have hmem : (c, d) ∈ Pl.mvs s t (s * s) := hpre.subset (by simp)
              obtain ⟨hc, hd⟩ := Pl.mvs_mem hmem
              simp only at hc hd
              have hd2 : d < s * s := by rw [hd]; exact Pl.tk_lt h6 hc ht
              rw [hN] at hc hd2
              have hsn := Lib.hid (Pl.sprM_snoc sh qn true (Pl.spr s sh (fun _ _ => 0) (Y.take j)) pre (c, d))
              simp only [Int.toNat_natCast] at g1
              obtain ⟨Q, hQ⟩ : ∃ Q, Pl.sprM sh qn true (Pl.spr s sh (fun _ _ => 0) (Y.take j)) pre = Q := ⟨_, rfl⟩
              rw [hQ] at g1 hsn
              have hrow := g1.mx.r qn hqn
              have x0 := g1.k2
              have x1 := g1.k3
              have x2 := g1.mx.p.cell (i := qn) hqn
              simp only [hqn, if_true] at x2
              have x3 := hrow.cell (i := d) hd2
              have x4 := hrow.frozen d
              obtain ⟨x5, _⟩ := (hR.out.below g1.b) c hc
              obtain ⟨y0, y1, y2, _⟩ := st_cellsS g2
              simp only at y0 y1 y2
              have i1 : (0 : Int) ≤ (qn : Int) := by omega
              have i2 : (qn : Int) < (k : Int) := by omega
              have i3 : (0 : Int) ≤ (c : Int) := by omega
              have i4 : (c : Int) < (N : Int) := by omega
              have i5 : (0 : Int) ≤ (d : Int) := by omega
              have i6 : (d : Int) < (N : Int) := by omega
              have HI := Lib.hid (And.intro g1 (And.intro g2 g3))
              clear g1 g2 g3 hmem hpre HS2 hS2 hMK hQ hrow hd
              gi_wp2_with fail
              refine tail_round 11 (fun ⟨_, _, h⟩ => h) rfl (by kernel_rfl) (by kernel_rfl) ?_
              simp only [List.take_succ_cons, List.take_zero, List.drop_succ_cons, List.drop_zero]
              change wpStill _ _ W.drew (fun a' => wpList _ _ _ _ a' W.drew) _ _
              have X0 : W.drew.cell? ⟨w.heap.size + 1 + 1, 0, none⟩ = some (.slice (some ⟨sb, 0, none⟩) N cN) := x0
              have X1 : W.drew.cell? ⟨w.heap.size + 1 + 1 + 1 + 1, 0, none⟩ = some (.slice (some ⟨w.heap.size + 1 + 1 + 1, 0, none⟩) k k) := x1
              have X2 : W.drew.cell? ⟨w.heap.size + 1 + 1 + 1, qn, none⟩ = some (.slice (some ⟨rb qn, 0, none⟩) N N) := x2
              have X3 : W.drew.cell? ⟨rb qn, d, none⟩ = some (.int .i64 (Q qn d)) := x3
              have X4 : W.drew.frozen? ⟨rb qn, d, none⟩ = false := x4
              have X5 : W.drew.cell? ⟨sb, c, none⟩ = some (.int .i64 (sh c)) := x5
              have X6 : W.drew.cell? ⟨wq.heap.size, 0, none⟩ = some (.int .i64 (qn : Int)) := y0
              have X7 : W.drew.cell? ⟨wq.heap.size, 2, none⟩ = some (.bool true) := y2
              have HV := Lib.hid ((HI.out.1.below (Below.refl _ _).drew).put hqn d (sh c))
              have HA := Lib.hid ((HI.out.2.1.below (Below.refl W.heap.size W).drew))
              have hKA : KeepsOthers W W.drew := KeepsOthers.drew _
              have hMd : MK b2 b5 s t W.drew := ⟨HI.out.2.2.c, HI.out.2.2.f0, HI.out.2.2.f1⟩
              have hrb4 := hrb3.out qn hqn
              clear x0 x1 x2 x3 x4 x5 y0 y1 y2 HI
              generalize W.drew = Z at *
              have hs9 : But (fun g => g = rb qn) Z (Z.setCell ⟨rb qn, d, none⟩ (.int .i64 (sh c))) := (But.refl (fun g => g = rb qn) Z).setCell (p := ⟨rb qn, d, none⟩) (.inr rfl) _
              have HA2 := Lib.hid (hs9.row HA.out (fun e => by have e' : wq.heap.size = rb qn := e; omega))
              have hM2 : MK b2 b5 s t (Z.setCell ⟨rb qn, d, none⟩ (.int .i64 (sh c))) := ⟨hs9.kept hMd.c (fun e => by simp only at e; omega), hs9.kept hMd.f0 (fun e => by simp only at e; omega), hs9.kept hMd.f1 (fun e => by simp only at e; omega)⟩
              have Y2 : (Z.setCell ⟨rb qn, d, none⟩ (.int .i64 (sh c))).cell? ⟨wq.heap.size, 2, none⟩ = some (.bool true) := hs9.kept X7 (fun e => by simp only at e; omega)
              repeat still_step
              refine wpStill_nil ?_
              clear X0 X1 X2 X5 X6 X7
              go_wp2
              have hk8 : KeepsOthers W (Z.setCell ⟨rb qn, d, none⟩ (.int .i64 (sh c))) := hKA.trans (KeepsOthers.setCell _ _ _)
              generalize Z.setCell ⟨rb qn, d, none⟩ (.int .i64 (sh c)) = V at *
              clear X3 X4
              have u2 := HV.out.mx.p.cell (i := qn) hqn
              simp only [hqn, if_true] at u2
              have u3 : V.cell? ⟨rb qn, d, none⟩ = some (.int .i64 (sh c)) := by
                have h := (HV.out.mx.r qn hqn).cell (i := d) hd2
                rw [h]
                simp [Pl.pcs]
              have u4 := (HV.out.mx.r qn hqn).frozen d
              obtain ⟨u5, _⟩ := (hR.out.below HV.out.b) c hc
              obtain ⟨u6, _, _, _⟩ := st_cellsS (show SA V wq.heap.size ⟨(qn : Int), t, true⟩ from HA2.out)
              simp only at u6
              have hwn : IntKind.i64.wrap (-(sh c)) = -(sh c) := by have := hsr.out c hc; rw [IntWalk.i64_left]; exact IntWalk.wrap64_in _ (by omega)
              gi_wp2_with fail
              refine tail_round 12 (fun ⟨_, _, h⟩ => h) rfl (by kernel_rfl) (by kernel_rfl) ?_
              simp only [List.take_succ_cons, List.take_zero, List.drop_succ_cons, List.drop_zero]
              change wpStill _ _ V.drew (fun a' => wpList _ _ _ _ a' V.drew) _ _
              have X0 : V.drew.cell? ⟨w.heap.size + 1 + 1, 0, none⟩ = some (.slice (some ⟨sb, 0, none⟩) N cN) := HV.out.k2
              have X1 : V.drew.cell? ⟨w.heap.size + 1 + 1 + 1 + 1, 0, none⟩ = some (.slice (some ⟨w.heap.size + 1 + 1 + 1, 0, none⟩) k k) := HV.out.k3
              have X2 : V.drew.cell? ⟨w.heap.size + 1 + 1 + 1, qn, none⟩ = some (.slice (some ⟨rb qn, 0, none⟩) N N) := u2
              have X3 : V.drew.cell? ⟨rb qn, d, none⟩ = some (.int .i64 (sh c)) := u3
              have X4 : V.drew.frozen? ⟨rb qn, d, none⟩ = false := u4
              have X5 : V.drew.cell? ⟨sb, c, none⟩ = some (.int .i64 (sh c)) := u5
              have X6 : V.drew.cell? ⟨wq.heap.size, 0, none⟩ = some (.int .i64 (qn : Int)) := u6
              have HV2 : Hid (KS' w (V.drew.setCell ⟨rb qn, d, none⟩ (.int .i64 (-(sh c)))) (s : Int) (some x) n cap sb N cN k k rb (Pl.pcs Q qn d (-(sh c))) rs) := Lib.hid (by
                have h := (HV.out.below (Below.refl _ _).drew).put hqn d (-(sh c))
                rw [Pl.pcs_twice] at h
                exact h)
              have hs8 : But (fun g => g = rb qn) V.drew (V.drew.setCell ⟨rb qn, d, none⟩ (.int .i64 (-(sh c)))) := (But.refl (fun g => g = rb qn) V.drew).setCell (p := ⟨rb qn, d, none⟩) (.inr rfl) _
              have HA3 := Lib.hid (hs8.row (HA2.out.drew) (fun e => by have e' : wq.heap.size = rb qn := e; omega))
              have hM3 : MK b2 b5 s t (V.drew.setCell ⟨rb qn, d, none⟩ (.int .i64 (-(sh c)))) := ⟨hs8.kept hM2.c (fun e => by simp only at e; omega), hs8.kept hM2.f0 (fun e => by simp only at e; omega), hs8.kept hM2.f1 (fun e => by simp only at e; omega)⟩
              have hk7 : KeepsOthers W (V.drew.setCell ⟨rb qn, d, none⟩ (.int .i64 (-(sh c)))) := (hk8.trans (KeepsOthers.drew _)).trans (KeepsOthers.setCell _ _ _)
              clear u2 u3 u4 u5 u6 HV HA2 hM2 hs8 hk8 Y2
              generalize V.drew = Z2 at *
              repeat still_step
              refine wpStill_nil ?_
              clear X0 X1 X2 X5 X6
              go_wp2
              exact ⟨hk7.from _, hk7.walks, by simp only [Int.toNat_natCast]; rw [hsn.out]; exact HV2.out, HA3.out, hM3, g4, g5, g6⟩
            case done =>
              rintro E W hE ⟨g1, _, _, g4, _, _⟩ hD
              have hne : E ∉ rs := fun hm => by have := g4 E hm; omega
              have hzE : w.heap.size + 5 ≤ W.heap.size := by have := (Array.getElem?_eq_some_iff.1 hD).1; omega
              have e9 : Pl.sprM sh (⟨(qn : Int), t, true⟩ : Pl.St).p.toNat (⟨(qn : Int), t, true⟩ : Pl.St).m (Pl.spr s sh (fun _ _ => 0) (Y.take j)) (Pl.mvs s t (s * s)) = Pl.spr s sh (fun _ _ => 0) (Y.take (j + 1)) := by rw [htk.out, Pl.spr_snoc]
              have g1' := g1
              rw [e9] at g1'
              have HE := Lib.hid (g1'.mark (E := E) (by omega) hD)
              clear g1 g1' HS2 hS2 hMK e9
              gi_wp2
              refine hK.out _ _ (Handed.intro (n - (j + 1)) (by omega) (hJ.out _ _ _ ?_))
              exact ⟨_, _, _, _, _, _, _, _, _, _, _, _, _, _, _, _, _, _, _, _, _, _, _, _, _, _, _, _, _, _, _, _, _, _, _, _, _, _, _, _, _, _, _, j + 1, E :: rs, ⟨by omega, rfl, Lib.hid (List.nodup_cons.2 ⟨hne, HN.out⟩), HE, hzE⟩, rfl⟩
        · obtain rfl : j = n := by omega
          have hi5 : ¬ (j : Int) < (j : Int) := by omega
          have hall : Y.take j = Y := List.take_of_length_le (by have := hn.out; omega)
          rw [hall] at HS
          clear hall
          gi_wp2
          rw [← hQ0.out]
          refine hK0.out _ _ ?_
          clear hK0 hQ0 hJ hK
          have k3 := HS.out.k3
          gi_wp2
          refine leaves_marks rs wq HN.out (fun r hr => (HS.out.mks r hr).2) ?_
          have fb := freed_but rs wq
          have no : ∀ b, (∃ T m f, wq.rowIs b T m f) → ¬ b ∈ rs := fun b ⟨T, m, f, hr⟩ hm => by
            obtain ⟨cs, h1, _⟩ := hr
            have h2 := (HS.out.mks b hm).2
            rw [h1] at h2
            cases h2
          refine ⟨.slice (some ⟨w.heap.size + 1 + 1 + 1, 0, none⟩) k k, by simp [results, Tryd.results55, go_sem], w.heap.size + 1 + 1 + 1, _, rb, rfl, Lib.hid (HS.out.mx.but fb (no _ ⟨_, _, _, HS.out.mx.p⟩) (fun i hi => no _ ⟨_, _, _, HS.out.mx.r i hi⟩)), by omega, ?_⟩
          exact HS.out.b.trans (fb.below HS.out.b.size (fun g hg hm => by have := (HS.out.mks g hm).1; omega))
end Go.Proofs.YtmkjmpkicmadcaaDoor

/- Contracts of package plate: Shape of a valid plate, with valid heights. -/
namespace Pl
/-- the heights of the free cells -/
def shB (ev : List Nat) (hs : List Int) (k : Nat) : Nat → Int := (List.range k).foldl (fun f i => fun c => if c = ev.getD i 0 then hs.getD i 0 else f c) (fun _ => 0)
theorem shB_succ (ev : List Nat) (hs : List Int) (k : Nat) : shB ev hs (k + 1) = fun c => if c = ev.getD k 0 then hs.getD k 0 else shB ev hs k c := by
  unfold shB
  rw [List.range_succ, List.foldl_append]
  rfl
/-- .. and those that follow from them -/
def shW (lf : Nat → Nat) (wf : Nat → Int) (f0 : Nat → Int) (k : Nat) : Nat → Int := (List.range k).foldl (fun f i => fun c => if c = i then wf i * f (lf i) else f c) f0
theorem shW_succ (lf : Nat → Nat) (wf : Nat → Int) (f0 : Nat → Int) (k : Nat) : shW lf wf f0 (k + 1) = fun c => if c = k then wf k * shW lf wf f0 k (lf k) else shW lf wf f0 k c := by
  unfold shW
  rw [List.range_succ, List.foldl_append]
  rfl
/-- Shape's shape -/
def shp (N : Nat) (lf : Nat → Nat) (wf : Nat → Int) (hs : List Int) : Nat → Int := shW lf wf (shB (evs N lf wf) hs (evs N lf wf).length) N
def Bd40 (f : Nat → Int) : Prop := ∀ c, -1099511627776 ≤ f c ∧ f c ≤ 1099511627776
theorem shB_bd {hs : List Int} (h : ∀ z ∈ hs, -1099511627776 ≤ z ∧ z ≤ 1099511627776) (ev : List Nat) : ∀ k, Bd40 (shB ev hs k)
  | 0 => fun c => by
    show -1099511627776 ≤ (0 : Int) ∧ (0 : Int) ≤ 1099511627776
    omega
  | k + 1 => fun c => by
    rw [shB_succ]
    simp only
    split
    · by_cases hk : k < hs.length
      · rw [List.getD, List.getElem?_eq_getElem hk]
        exact h _ (List.getElem_mem hk)
      · rw [List.getD, List.getElem?_eq_none (by omega)]
        show -1099511627776 ≤ (0 : Int) ∧ (0 : Int) ≤ 1099511627776
        omega
    · exact shB_bd h ev k c
theorem tri_bd40 {a b : Int} (ha : a = 1 ∨ a = -1 ∨ a = 0) (hb : -1099511627776 ≤ b ∧ b ≤ 1099511627776) : -1099511627776 ≤ a * b ∧ a * b ≤ 1099511627776 := by
  rcases ha with rfl | rfl | rfl
  · rw [Int.one_mul]; exact hb
  · rw [Int.neg_mul, Int.one_mul]; omega
  · rw [Int.zero_mul]; omega
theorem shW_bd {lf : Nat → Nat} {wf : Nat → Int} {f0 : Nat → Int} {N : Nat} (hw : ∀ k, k < N → wf k = 1 ∨ wf k = -1 ∨ wf k = 0) (h0 : Bd40 f0) : ∀ k, k ≤ N → Bd40 (shW lf wf f0 k)
  | 0, _ => h0
  | k + 1, hk => fun c => by
    have ih := shW_bd (lf := lf) hw h0 k (by omega)
    rw [shW_succ]
    simp only
    split
    · exact tri_bd40 (hw k (by omega)) (ih _)
    · exact ih c
end Pl
namespace Go.Proofs.YtmkjmpkicmadcaaDoor
open Go.RowKit

theorem rowF_made (W : World) (N : Nat) : RowF (W.alloc (.cells (madeCells #[.int .i64 0] N) 3)) W.heap.size N (fun _ => 0) := fun k hk =>
  ⟨(rowIs_made W _ N _).cell (i := k) hk, (rowIs_made W _ N _).frozen k⟩
theorem ns_of_owns {w : World} {B : Nat} {v : Value} {l : List Nat} (h : w.ownsRow B 3 1 v l.length (l.map nV)) : ∃ a cap, v = .slice a l.length cap ∧ NsAt w a (l.map fun x : Nat => (x : Int)) := by
  obtain ⟨_, h2⟩ := h
  rcases h2 with ⟨hv, h0⟩ | ⟨g, cap, cur, hv, hb, hg, hle, hcm, hs, ht⟩
  · exact ⟨none, 0, by rw [hv, h0], fun k hk => by rw [List.length_map] at hk; omega⟩
  · refine ⟨_, cap, hv, fun k hk => ⟨_, rfl, ?_⟩⟩
    rw [List.length_map] at hk
    have e1 : (⟨g, 0, none⟩ : Addr).add k = ⟨g, k, none⟩ := by unfold Addr.add; split <;> simp_all
    have h1 : (List.take (l.length * 1) cur.toList)[k]? = (l.map nV)[k]? := by rw [ht]
    rw [List.getElem?_take_of_lt (by omega), Array.getElem?_toList, List.getElem?_map, List.getElem?_eq_getElem hk] at h1
    rw [e1]
    simp [World.cell?, hg, h1, List.getD, List.getElem?_eq_getElem hk, nV]

/-- what Shape leaves -/
def ShPost (w : World) (N mm : Nat) (P : Nat → Nat → Int) (e : Ending) (w' : World) : Prop :=
  ∃ pb B rb, e = .returned (.tuple #[.slice (some ⟨pb, 0, none⟩) mm mm, .int .i64 0]) ∧ Hid (MX B w' pb mm N mm rb P) ∧ w.heap.size ≤ pb ∧ Below w.heap.size w w'

set_option maxRecDepth 100000 in
set_option maxHeartbeats 8000000 in
theorem pShape_ok (s : Nat) (mm : Nat) (a : Option Addr) (q cap : Nat) (L : List Pl.Wk) (hq : L.length = q) (p : Int) (hV : Pl.VS s (mm : Int) L p) (x : Option Addr) (ch : Nat) (hs : List Int) (hl : Nat) (hhl : Hid (hs.length = hl)) (hle : Hid ((Pl.evs (s * s) (Pl.lsF (Pl.clsL s (Pl.signs L p)).1) (Pl.wsF (Pl.clsL s (Pl.signs L p)).2)).length = hl)) (hhf : Hid (∀ z ∈ hs, -1099511627776 ≤ z ∧ z ≤ 1099511627776)) (w : World) (hL : Hid (WksAt w a L)) (hH : Hid (NsAt w x hs)) :
    Calls Tryd.prog 31 #[.agg #[.int .i64 (s : Int), .int .i64 (mm : Int), .slice a q cap], .int .i64 p, .slice x hl ch] w (ShPost w (s * s) mm (Pl.spr s (Pl.shp (s * s) (Pl.lsF (Pl.clsL s (Pl.signs L p)).1) (Pl.wsF (Pl.clsL s (Pl.signs L p)).2) hs) (fun _ _ => 0) ((Pl.ways L p).map Prod.fst))) := by
  have hCL := Pl.clsL_CL hV.s6 hV.sg
  have hs3 : s * s ≤ 36 := Nat.mul_le_mul hV.s6 hV.s6
  have hs1 : 1 ≤ s * s := Nat.mul_le_mul hV.s1 hV.s1
  have HC := Lib.hid (cp_ok hV (cap := cap) hq hL)
  have HW := Lib.hid (wf_ok hV (cap := cap) hq hL)
  have hsl := Pl.signs_len L p
  have HF := Lib.hid (fun (W : World) (a3 : Option Addr) (c3 : Nat) (hG : Hid (SgsAt W a3 (Pl.signs L p))) => classes_any s hV.s1 hV.s6 a3 (Pl.signs L p).length c3 (Pl.signs L p) (Lib.hid rfl) (by omega) (Lib.hid hV.sg) W hG)
  obtain ⟨N, hN⟩ : ∃ N, s * s = N := ⟨_, rfl⟩
  rw [hN] at HF hCL hs3 hs1 hle
  rw [hN]
  obtain ⟨QL, hQL⟩ : ∃ QL, (Pl.clsL s (Pl.signs L p)) = QL := ⟨_, rfl⟩
  rw [hQL] at HF hCL hle
  rw [hQL]
  replace hCL := Lib.hid hCL
  clear hQL
  have hmk1 := Lib.hid (mkInts N (by omega))
  have hhn : hl ≤ 36 := by
    have := evs_le N (Pl.lsF QL.1) (Pl.wsF QL.2)
    have := hle.out
    omega
  go_enter Tryd.func31, Tryd.ntmps31
  go_wp2_with fail
  refine (HC.out _ (by repeat (first | with_reducible exact Below.refl _ _ | with_reducible assumption | refine below_drewN ?_ _ | refine Below.drew ?_ | refine Below.alloc ?_ (by first | (simp; done) | (simp; omega) | omega) _ | refine Below.setCell ?_ (by first | (simp; done) | (simp; omega) | omega) _ | refine Below.trans ?_ (Below.mono (by assumption) (by first | (simp; done) | (simp; omega) | omega))))).mono ?_
  rintro e w1 ⟨rfl, hb1⟩
  have k0 : w1.cell? ⟨w.heap.size, 0, none⟩ = some (.int .i64 (s : Int)) := kept1 (by simp [go_sem]) hb1
  have k1 : w1.cell? ⟨w.heap.size, 1, none⟩ = some (.int .i64 (mm : Int)) := kept1 (by simp [go_sem]) hb1
  have k2 : w1.cell? ⟨w.heap.size, 2, none⟩ = some (.slice a q cap) := kept1 (by simp [go_sem]) hb1
  have hbw : Below w.heap.size w w1 := (by repeat (first | with_reducible exact Below.refl _ _ | with_reducible assumption | refine below_drewN ?_ _ | refine Below.drew ?_ | refine Below.alloc ?_ (by first | (simp; done) | (simp; omega) | omega) _ | refine Below.setCell ?_ (by first | (simp; done) | (simp; omega) | omega) _ | refine Below.trans ?_ (Below.mono (by assumption) (by first | (simp; done) | (simp; omega) | omega))))
  clear hb1 HC
  go_wp2_with fail
  refine (HW.out _ hbw).mono ?_
  rintro e w2 ⟨a1, n1, c1, mb, f, rfl, hn1, hS, hM, hA, hb2⟩
  replace hn1 := Lib.hid hn1
  replace k0 := kept1 k0 hb2
  replace k1 := kept1 k1 hb2
  replace k2 := kept1 k2 hb2
  have hbw2 := hbw.trans (hb2.mono hbw.size)
  clear hbw hb2 HW
  go_upto_region 5 with fail
  have hba := below_alloc (Below.refl w2.heap.size w2) (Obj.cells #[.slice a1 n1 c1, .map (some mb)] 88)
  have z0 : (w2.alloc (Obj.cells #[.slice a1 n1 c1, .map (some mb)] 88)).cell? ⟨w2.heap.size, 0, none⟩ = some (.slice a1 n1 c1) := by simp [go_sem]
  have z1 : (w2.alloc (Obj.cells #[.slice a1 n1 c1, .map (some mb)] 88)).cell? ⟨w2.heap.size, 1, none⟩ = some (.map (some mb)) := by simp [go_sem]
  replace k0 := kept1 k0 hba
  replace k1 := kept1 k1 hba
  replace k2 := kept1 k2 hba
  have hS1 := Lib.hid (hS.out.below hba)
  have hbw3 := hbw2.trans (hba.mono hbw2.size)
  have HS0 := Lib.hid (fun (W : World) (hb : Below w2.heap.size w2 W) => signs_after hV hn1.out hS.out hM.out hA.out (cap := c1) W hb)
  have HS1 := Lib.hid (HS0.out _ hba.drew)
  clear hba hM hA hS HS0
  generalize w2.alloc (Obj.cells #[.slice a1 n1 c1, .map (some mb)] 88) = X at *
  have S0 : X.drew.cell? ⟨w.heap.size, 0, none⟩ = some (.int .i64 (s : Int)) ∧ X.drew.cell? ⟨w2.heap.size, 0, none⟩ = some (.slice a1 n1 c1) ∧ X.drew.cell? ⟨w2.heap.size, 1, none⟩ = some (.map (some mb)) := ⟨k0, z0, z1⟩
  refine region_head_held 9 (fun w' => w'.cell? ⟨w.heap.size, 0, none⟩ = some (.int .i64 (s : Int)) ∧ w'.cell? ⟨w2.heap.size, 0, none⟩ = some (.slice a1 n1 c1) ∧ w'.cell? ⟨w2.heap.size, 1, none⟩ = some (.map (some mb))) (by kernel_rfl) (by kernel_rfl) S0 (fun hHeld => ?_)
  simp only [List.take_succ_cons, List.take_zero, List.drop_succ_cons, List.drop_zero]
  refine wpAnyH_take (i := 0) (v := ?_) rfl (by kernel_rfl) (by kernel_rfl) (by kernel_rfl) (fun _ _ _ h => h) (Or.inl ⟨by rfl, ?_⟩) (by assumption) ?_
  rotate_left 1
  · (intro w hSw; (try dsimp only at hSw); go_simp; all_goals with_reducible rfl)
  try simp only [Act.put, List.setIfInBounds_toArray, List.set_cons_zero, List.set_cons_succ]
  refine wpAnyH_take (i := 1) (v := ?_) rfl (by kernel_rfl) (by kernel_rfl) (by kernel_rfl) (fun _ _ _ h => h) (Or.inl ⟨by rfl, ?_⟩) (by assumption) ?_
  rotate_left 1
  · (intro w hSw; (try dsimp only at hSw); go_simp; all_goals with_reducible rfl)
  try simp only [Act.put, List.setIfInBounds_toArray, List.set_cons_zero, List.set_cons_succ]
  refine wpAnyH_take (i := 2) (v := ?_) rfl (by kernel_rfl) (by kernel_rfl) (by kernel_rfl) (fun _ _ _ h => h) (Or.inl ⟨by rfl, ?_⟩) (by assumption) ?_
  rotate_left 1
  · (intro w hSw; (try dsimp only at hSw); go_simp; all_goals with_reducible rfl)
  try simp only [Act.put, List.setIfInBounds_toArray, List.set_cons_zero, List.set_cons_succ]
  simp only [List.getElem_toArray, List.getElem_cons_succ, List.getElem_cons_zero, Act.put, List.setIfInBounds_toArray, List.set_cons_zero, List.set_cons_succ]
  refine wpAnyH_ready (rs := [3]) (by kernel_rfl) (by simp) ?_
  refine AllReadyH.cons rfl (fun K hK => ?_) ?_
  rotate_left 1
  · exact AllReadyH.nil
  go_simp
  with_reducible refine (HS1.out).mono ?_
  rintro e w3 ⟨v, he, hO⟩
  subst he
  have S3 : w3.cell? ⟨w.heap.size, 0, none⟩ = some (.int .i64 (s : Int)) ∧ w3.cell? ⟨w2.heap.size, 0, none⟩ = some (.slice a1 n1 c1) ∧ w3.cell? ⟨w2.heap.size, 1, none⟩ = some (.map (some mb)) := ⟨kept1 hHeld.1 hO.out.b, kept1 hHeld.2.1 hO.out.b, kept1 hHeld.2.2 hO.out.b⟩
  refine hK.out _ _ S3 (fun hHeld3 => ?_)
  clear hK K HS1
  try simp only [List.getElem_toArray, List.getElem_cons_succ, List.getElem_cons_zero, Act.put, List.setIfInBounds_toArray, List.set_cons_zero, List.set_cons_succ]
  obtain ⟨a3, c3, rfl, hG⟩ := hO.out.at
  replace k1 := kept1 (W := X.drew) k1 hO.out.b
  replace k2 := kept1 (W := X.drew) k2 hO.out.b
  have hS3 := Lib.hid (StsAt.below (w := X.drew) hS1.out hO.out.b)
  have hbw4 : Below w.heap.size w w3 := hbw3.drew.trans (hO.out.b.mono (by have := hbw3.size; exact this))
  replace hG := Lib.hid hG
  clear hO hHeld hS1
  refine wpAnyH_ready (rs := [4]) (by kernel_rfl) (by simp) ?_
  refine AllReadyH.cons rfl (fun K hK => ?_) ?_
  rotate_left 1
  · exact AllReadyH.nil
  go_simp
  with_reducible refine (HF.out w3 a3 c3 hG).mono ?_
  rintro e w4 ⟨lb, wb, cl, cw, he, hl4, hw4, _, _, _, hb4⟩
  subst he
  have S4 : w4.cell? ⟨w.heap.size, 0, none⟩ = some (.int .i64 (s : Int)) ∧ w4.cell? ⟨w2.heap.size, 0, none⟩ = some (.slice a1 n1 c1) ∧ w4.cell? ⟨w2.heap.size, 1, none⟩ = some (.map (some mb)) := ⟨kept1 S3.1 hb4, kept1 S3.2.1 hb4, kept1 S3.2.2 hb4⟩
  refine hK.out _ _ S4 (fun hHeld4 => ?_)
  clear hK K HF
  try simp only [List.getElem_toArray, List.getElem_cons_succ, List.getElem_cons_zero, Act.put, List.setIfInBounds_toArray, List.set_cons_zero, List.set_cons_succ]
  refine wpAnyH_take (i := 5) (v := ?_) rfl (by kernel_rfl) (by kernel_rfl) (by kernel_rfl) (fun _ _ _ h => h) (Or.inl ⟨by rfl, ?_⟩) (by assumption) ?_
  rotate_left 1
  · (intro w hSw; (try dsimp only at hSw); go_simp; all_goals with_reducible rfl)
  try simp only [Act.put, List.setIfInBounds_toArray, List.set_cons_zero, List.set_cons_succ]
  refine wpAnyH_take (i := 6) (v := ?_) rfl (by kernel_rfl) (by kernel_rfl) (by kernel_rfl) (fun _ _ _ h => h) (Or.inl ⟨by rfl, ?_⟩) (by assumption) ?_
  rotate_left 1
  · (intro w hSw; (try dsimp only at hSw); go_simp; all_goals with_reducible rfl)
  try simp only [Act.put, List.setIfInBounds_toArray, List.set_cons_zero, List.set_cons_succ]
  refine wpAnyH_take (i := 7) (v := ?_) rfl (by kernel_rfl) (by kernel_rfl) (by kernel_rfl) (fun _ _ _ h => h) (Or.inl ⟨by rfl, ?_⟩) (by assumption) ?_
  rotate_left 1
  · (intro w hSw; (try dsimp only at hSw); go_simp; all_goals with_reducible rfl)
  try simp only [Act.put, List.setIfInBounds_toArray, List.set_cons_zero, List.set_cons_succ]
  refine wpAnyH_take (i := 8) (v := ?_) rfl (by kernel_rfl) (by kernel_rfl) (by kernel_rfl) (fun _ _ _ h => h) (Or.inl ⟨by rfl, ?_⟩) (by assumption) ?_
  rotate_left 1
  · (intro w hSw; (try dsimp only at hSw); go_simp; all_goals with_reducible rfl)
  try simp only [Act.put, List.setIfInBounds_toArray, List.set_cons_zero, List.set_cons_succ]
  simp only [List.getElem_toArray, List.getElem_cons_succ, List.getElem_cons_zero, Act.put, List.setIfInBounds_toArray, List.set_cons_zero, List.set_cons_succ]
  refine wpAnyH_done (by kernel_rfl) ?_ _
  show wpList _ _ _ _ _ _
  replace k0 := S4.1
  replace z0 := S4.2.1
  replace z1 := S4.2.2
  replace k1 := kept1 k1 hb4
  replace k2 := kept1 k2 hb4
  have hS4 := Lib.hid (hS3.out.below hb4)
  have hbw5 := hbw4.trans (hb4.mono hbw4.size)
  clear S0 S3 S4 hHeld3 hHeld4 hb4 hG hS3 hbw3 hbw4
  obtain ⟨ev, hev⟩ : ∃ ev, Pl.evs N (Pl.lsF QL.1) (Pl.wsF QL.2) = ev := ⟨_, rfl⟩
  have HE := Lib.hid (fun (W : World) (hb : Below w4.heap.size w4 W) => evenClasses_any lb wb N cl cw _ _ hs3 W (Lib.hid (hl4.out.below hb)) (Lib.hid (hw4.out.below hb)))
  rw [hev] at HE hle
  go_wp2_with fail
  refine (HE.out _ (Below.refl _ _)).mono ?_
  rintro e w5 ⟨v, rfl, ho, hb5⟩
  obtain ⟨ae, ce, rfl, hNe⟩ := ns_of_owns ho.out
  have HV := Lib.hid (fun (W : World) (hb : Below w.heap.size w W) => pHeights_any x ch hs (hl : Int) hl hhl (by omega) W (Lib.hid (hH.out.below hb)))
  have hval : (decide ((hl : Int) = (hl : Int)) && !hs.any Pl.hfar) = true := by
    simp only [decide_true, Bool.true_and, Bool.not_eq_true', List.any_eq_false]
    intro z hz
    have := hhf.out z hz
    unfold Pl.hfar
    simp only [decide_eq_true_eq]
    omega
  rw [hval] at HV
  clear hval
  rw [hle.out]
  have hbw6 := hbw5.trans (hb5.mono hbw5.size)
  replace k0 := kept1 k0 hb5
  replace k1 := kept1 k1 hb5
  replace k2 := kept1 k2 hb5
  replace z0 := kept1 z0 hb5
  replace z1 := kept1 z1 hb5
  have hS5 := Lib.hid (hS4.out.below hb5)
  have hl5 := Lib.hid (hl4.out.below hb5)
  have hw5 := Lib.hid (hw4.out.below hb5)
  replace hNe := Lib.hid hNe
  clear ho hb5 hbw5 hS4 hl4 hw4 HE
  go_wp2_with fail
  refine (HV.out _ hbw6).mono ?_
  rintro e w6 ⟨rfl, rfl⟩
  clear HV
  go_upto_region 9 with fail
  have hmk := hmk1.out
  have hbm := below_alloc (Below.refl w6.heap.size w6) (Obj.cells (madeCells #[.int .i64 0] N) 3)
  have hRm := Lib.hid (rowF_made w6 N)
  clear hmk1
  go_wp2
  clear hmk
  generalize w6.alloc (Obj.cells (madeCells #[.int .i64 0] N) 3) = X6 at *
  go_loopw [48] (fun iv wr => ∃ k : Nat, k ≤ hl ∧ iv = .int .i64 (k : Int) ∧ Hid (RowF wr w6.heap.size N (Pl.shB ev hs k)) ∧ Below w6.heap.size w6 wr) (fun iv _ => hl - (RowKit.intOf iv).toNat)
  case atStart => exact ⟨0, Nat.zero_le _, rfl, hRm, hbm⟩
  case round =>
    clear hRm hbm
    clear X6
    obtain ⟨k, hk, rfl, hr, hb⟩ := hrel
    by_cases hlt : k < hl
    · have i1 : (k : Int) < (hl : Int) := by omega
      have i2 : (0 : Int) ≤ (k : Int) := by omega
      have hke : k < ev.length := by have := hle.out; omega
      have hkh : k < hs.length := by have := hhl.out; omega
      obtain ⟨y, hy, hc⟩ := hNe.out k (by rw [List.length_map]; exact hke)
      obtain ⟨y2, hy2, hc2⟩ := hH.out k hkh
      have hg : (ev.map fun x : Nat => (x : Int)).getD k 0 = ((ev.getD k 0 : Nat) : Int) := by
        simp [List.getD, List.getElem?_eq_getElem hke]
      rw [hg] at hc
      clear hg
      have hmem : ev.getD k 0 ∈ ev := by rw [List.getD, List.getElem?_eq_getElem hke]; exact List.getElem_mem hke
      have hcn : ev.getD k 0 < N := by
        rw [← hev] at hmem ⊢
        exact (Pl.mem_evs.1 hmem).1
      have hst := Lib.hid (Pl.shB_succ ev hs k)
      obtain ⟨c0, hc0⟩ : ∃ c0, ev.getD k 0 = c0 := ⟨_, rfl⟩
      obtain ⟨h0, hh0⟩ : ∃ h0, hs.getD k 0 = h0 := ⟨_, rfl⟩
      rw [hc0] at hc hcn hst
      rw [hh0] at hc2 hst
      replace hc := kept1 hc hb
      replace hc2 := kept1 hc2 (hbw6.trans (hb.mono hbw6.size))
      have x3 := (hr.out c0 hcn).1
      have x4 := (hr.out c0 hcn).2
      have i3 : (0 : Int) ≤ (c0 : Int) := by omega
      have i4 : (c0 : Int) < (N : Int) := by omega
      have hn9 : Hid (RowF (wr.setCell ⟨w6.heap.size, c0, none⟩ (.int .i64 h0)) w6.heap.size N (Pl.shB ev hs (k + 1))) := Lib.hid (by rw [hst.out]; exact hr.out.set c0 h0)
      have hb9 : Below w6.heap.size w6 (wr.setCell ⟨w6.heap.size, c0, none⟩ (.int .i64 h0)) := hb.setCell (Nat.le_refl _) _
      subst hy
      subst hy2
      clear hr hb hst hmem hc0 hh0 k0 k1 k2 z0 z1
      go_wp2
      go_roundw
      case rel => exact ⟨k + 1, by omega, by go_num, hn9, hb9⟩
      case measure => first | (simp [RowKit.intOf]; done) | (simp [RowKit.intOf]; omega) | omega
    · obtain rfl : k = hl := by omega
      have i1 : ¬ (k : Int) < (k : Int) := by omega
      go_wp2
      have hbd0 : Hid (Pl.Bd40 (Pl.shB ev hs k)) := Lib.hid (Pl.shB_bd hhf.out ev k)
      go_loopw [63] (fun iv wr => ∃ j : Nat, j ≤ N ∧ iv = .int .i64 (j : Int) ∧ Hid (RowF wr w6.heap.size N (Pl.shW (Pl.lsF QL.1) (Pl.wsF QL.2) (Pl.shB ev hs k) j)) ∧ Below w6.heap.size w6 wr) (fun iv _ => N - (RowKit.intOf iv).toNat)
      case atStart => exact ⟨0, Nat.zero_le _, rfl, hr, hb⟩
      case round =>
        clear hr hb
        obtain ⟨j, hj, rfl, hr, hb⟩ := hrel
        by_cases hlt2 : j < N
        · have i2 : (j : Int) < (N : Int) := by omega
          have i3 : (0 : Int) ≤ (j : Int) := by omega
          have hcl := ((hl5.out.below hb) j hlt2).1
          have hcw := ((hw5.out.below hb) j hlt2).1
          have hlj := hCL.out.lt j hlt2
          have htri := hCL.out.tri j hlt2
          have hbd := Pl.shW_bd (lf := Pl.lsF QL.1) hCL.out.tri hbd0.out j (by omega) (Pl.lsF QL.1 j)
          have hst := Lib.hid (Pl.shW_succ (Pl.lsF QL.1) (Pl.wsF QL.2) (Pl.shB ev hs k) j)
          obtain ⟨u, hu⟩ : ∃ u, Pl.lsF QL.1 j = u := ⟨_, rfl⟩
          obtain ⟨v, hv⟩ : ∃ v, Pl.wsF QL.2 j = v := ⟨_, rfl⟩
          rw [hu] at hcl hlj hbd hst
          rw [hv] at hcw htri hst
          have x3 := (hr.out u hlj).1
          have x5 := (hr.out j hlt2).1
          have x6 := (hr.out j hlt2).2
          obtain ⟨fu, hfu⟩ : ∃ fu, Pl.shW (Pl.lsF QL.1) (Pl.wsF QL.2) (Pl.shB ev hs k) j u = fu := ⟨_, rfl⟩
          rw [hfu] at x3 hbd hst
          have hmb := Pl.tri_bd40 htri hbd
          have hwm : IntKind.i64.wrap (v * fu) = v * fu := by rw [IntWalk.i64_left]; exact IntWalk.wrap64_in _ (by omega)
          have i4 : (0 : Int) ≤ (u : Int) := by omega
          have i5 : (u : Int) < (N : Int) := by omega
          have hn9 : Hid (RowF (wr.setCell ⟨w6.heap.size, j, none⟩ (.int .i64 (v * fu))) w6.heap.size N (Pl.shW (Pl.lsF QL.1) (Pl.wsF QL.2) (Pl.shB ev hs k) (j + 1))) := Lib.hid (by rw [hst.out]; exact hr.out.set j (v * fu))
          have hb9 : Below w6.heap.size w6 (wr.setCell ⟨w6.heap.size, j, none⟩ (.int .i64 (v * fu))) := hb.setCell (Nat.le_refl _) _
          clear hr hb hst hu hv hfu hbd htri hmb k0 k1 k2 z0 z1
          go_wp2
          go_roundw
          case rel => exact ⟨j + 1, by omega, by go_num, hn9, hb9⟩
          case measure => first | (simp [RowKit.intOf]; done) | (simp [RowKit.intOf]; omega) | omega
        · obtain rfl : j = N := by omega
          have i2 : ¬ (j : Int) < (j : Int) := by omega
          have hB := Pl.ways_ok hV.m6 hV.ok ⟨hV.p0, hV.pm⟩
          have hbds := Pl.shW_bd (lf := Pl.lsF QL.1) hCL.out.tri hbd0.out j (Nat.le_refl _)
          have HSp := Lib.hid (spread_any s hV.s1 hV.s6 mm (by have := hV.m6; omega) a q cap a1 n1 c1 mb ((Pl.ways L p).map Prod.fst) (Lib.hid (by rw [List.length_map, hn1.out])) (by rw [hn1.out]; exact Pl.bf_len hV.m6 hV.ok ⟨hV.p0, hV.pm⟩ hB) (Lib.hid (fun y hy => by
            obtain ⟨e, he, rfl⟩ := List.mem_map.1 hy
            exact Pl.bf_in hV.ok ⟨hV.p0, hV.pm⟩ hB he)) w6.heap.size j j hN _ (Lib.hid (fun c _ => by have := hbds c; omega)) wr (Lib.hid (hS5.out.below hb)) hr)
          replace k0 := kept1 k0 hb
          replace k1 := kept1 k1 hb
          replace k2 := kept1 k2 hb
          replace z0 := kept1 z0 hb
          replace z1 := kept1 z1 hb
          have hbf := hbw6.trans (hb.mono hbw6.size)
          have hshp : Pl.shp j (Pl.lsF QL.1) (Pl.wsF QL.2) hs = Pl.shW (Pl.lsF QL.1) (Pl.wsF QL.2) (Pl.shB ev hs k) j := by
            unfold Pl.shp
            rw [hev, hle.out]
          clear hr hb hB hbds
          go_wp2_with fail
          refine HSp.out.mono ?_
          rintro e w9 ⟨pb, B, rb, rfl, hMX, hpb, hb9⟩
          have hbz := hbf.trans (hb9.mono hbf.size)
          have hpz := Nat.le_trans hbf.size hpb
          rw [← hshp] at hMX
          clear HSp hbf hb9 k0 k1 k2 z0 z1
          go_wp2
          go_ret2
          exact ⟨pb, B, rb, rfl, hMX, hpz, hbz⟩
end Go.Proofs.YtmkjmpkicmadcaaDoor
