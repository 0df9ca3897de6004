/- What the claims of layer 3 share, part 6: several texts one behind the other. -/
import Derived.Test.YtidcedilfhmllaaDoorZ05
import Derived.Test.YtidcedilfhmllaaDoorZ02
import Derived.RegionIn
import Derived.LoopIn
import Derived.LoopNIn
import Derived.OwnWalkIn
import Derived.RangeFuncBound
import Derived.RangeFuncCalls
import Derived.RangeFuncGives
import Derived.RangeFuncLeaves
import Derived.BigRegionIn
import Derived.Test.YtidcedilfhmllaaDoorZ03
set_option linter.unusedSimpArgs false
set_option linter.unusedVariables false
/- Contracts of package plate: moves, an iterator. -/
namespace Pl
/-- the cells, and where a turn takes them -/
def mvs (side t n : Nat) : List (Nat × Nat) := (List.range n).map fun x => (x, tk side t x)
theorem mvs_succ (side t k : Nat) : mvs side t (k + 1) = mvs side t k ++ [(k, tk side t k)] := by
  unfold mvs
  rw [List.range_succ, List.map_append]
  rfl
theorem mvs_pre (side t : Nat) {k n : Nat} (h : k ≤ n) : mvs side t k <+: mvs side t n := by
  unfold mvs
  have e : List.range k = (List.range n).take k := by rw [List.take_range]; congr 1; omega
  rw [e]
  exact (List.take_prefix k _).map _
end Pl
namespace Go.Proofs.YtidcedilfhmllaaDoor
open Go.RowKit
attribute [local go_sem] Oper.semAt_some

def mvV (x : Nat × Nat) : Array Value := #[.int .i64 (x.1 : Int), .int .i64 (x.2 : Int)]
theorem grown_of_below {w w' : World} (h : Below w.heap.size w w') : w.grownBy w' none := ⟨h.os, h.tape, h.output, h.size, fun k hk _ => h.block k hk⟩

/-- what the iterator reads -/
structure MK (b2 b5 side t : Nat) (W : World) : Prop where
  c : W.cell? ⟨b2, 0, none⟩ = some (.int .i64 (side : Int))
  f0 : W.cell? ⟨b5, 0, none⟩ = some (tV (Pl.tR t))
  f1 : W.cell? ⟨b5, 1, none⟩ = some (tV (Pl.tC t))

set_option maxRecDepth 100000 in
set_option maxHeartbeats 2000000 in
theorem moves1_in (q : Nat) (hq : 2 ≤ q) (l b2 b5 side t : Nat) (ht : t < 8) (h1 : 1 ≤ side) (h6 : side ≤ 6) (J Jx : List (Nat × Nat) → World → Prop)
    (hK : ∀ pre W, J pre W → MK b2 b5 side t W)
    (hY : ∀ pre x W, J pre W → pre ++ [x] <+: Pl.mvs side t (side * side) → YieldAt Fence.wide (q - 1) Tryd.prog l (mvV x) W fun e W' =>
      (e = .returned (.bool true) ∧ J (pre ++ [x]) W' ∧ KeepsWalks W W') ∨ (e = .returned (.bool false) ∧ Jx (pre ++ [x]) W'))
    (W : World) (hA : AbidesFrom W.heap.size J) (h0 : J [] W) :
    CallsIn Fence.wide q Tryd.prog 98 #[.func (.yield l) #[] #[], .pointer (some ⟨b2, 0, none⟩), .pointer (some ⟨b5, 0, none⟩)] W fun e W' => (∃ v, e = .returned v) ∧ (J (Pl.mvs side t (side * side)) W' ∨ ∃ pre, pre <+: Pl.mvs side t (side * side) ∧ Jx pre W') := by
  have hn1 : 1 ≤ q := by omega
  obtain ⟨c, _, _⟩ := hK _ _ h0
  have hs2 : ((side * side : Nat) : Int) = (side : Int) * (side : Int) := Int.natCast_mul _ _
  have hs3 : side * side ≤ 36 := Nat.mul_le_mul h6 h6
  have hs4 : (side : Int) * (side : Int) ≤ 36 := by omega
  have hs5 : (0 : Int) ≤ (side : Int) * (side : Int) := by omega
  replace hs2 := Lib.hid hs2
  refine callsIn_of_wp Tryd.func98 rfl trivial ?_ rfl
  simp only [Tryd.ntmps98, List.size_toArray, List.length_cons, List.length_nil, Nat.reduceAdd, Nat.reduceSub, Array.replicate_succ, Array.replicate_zero, List.push_toArray, List.append_toArray, List.nil_append, List.cons_append]
  gi_wp2
  gi_loopw [8] (fun i wr => ∃ k : Nat, k ≤ side * side ∧ i = .int .i64 k ∧ J (Pl.mvs side t k) wr) (fun i _ => side * side - (RowKit.intOf i).toNat)
  case atStart => exact ⟨0, Nat.zero_le _, rfl, h0⟩
  case round =>
    obtain ⟨k, hk, rfl, hJs⟩ := hrel
    clear c
    by_cases hlt : k < side * side
    · obtain ⟨c, f0, f1⟩ := hK _ _ hJs
      have HT := takeT_any t side k ht h1 h6 hlt wr
      unfold tnV at HT
      have hnx := Lib.hid (Pl.mvs_succ side t k)
      have hpre := Pl.mvs_pre side t (show k + 1 ≤ side * side by omega)
      rw [hnx.out] at hpre
      replace hpre := Lib.hid hpre
      have hi5 : (k : Int) < (side : Int) * (side : Int) := by rw [← hs2.out]; omega
      replace HT := Lib.hid HT
      clear h0
      gi_wp2_with fail
      refine ⟨trivial, (callsIn_wide.2 HT.out).mono ?_⟩
      rintro e W1 ⟨rfl, hb1⟩
      have hJ1 := hA _ _ _ none hJs (grown_of_below hb1) (fun _ e => by cases e)
      obtain ⟨fn, tmps, assign, body, hy, hR⟩ := hY _ _ W1 hJ1 hpre.out
      simp only [mvV] at hy
      clear hY HT c f0 f1 hb1 hJs
      gi_wp2
      refine hR.mono ?_
      rintro e W3 (⟨rfl, hJ3, hk3⟩ | ⟨rfl, hJx3⟩)
      · gi_wp2
        go_roundw
        case rel => exact ⟨k + 1, by omega, by go_num, by rw [hnx.out]; exact hJ3⟩
        case measure => first | (simp [RowKit.intOf]; done) | (simp [RowKit.intOf]; omega) | omega
      · gi_wp2
        refine bodyPost_ret (results_none rfl _ _ _) rfl ?_
        exact ⟨⟨_, rfl⟩, .inr ⟨_, hpre.out, hJx3⟩⟩
    · obtain rfl : k = side * side := by omega
      have hneg : ¬ ((side * side : Nat) : Int) < (side : Int) * (side : Int) := by rw [← hs2.out]; omega
      have hneg2 : ¬ (side : Int) * (side : Int) < (side : Int) * (side : Int) := by omega
      gi_wp2
      go_end0
      exact ⟨⟨_, rfl⟩, .inl hJs⟩

theorem moves_hands (q : Nat) (hq : 2 ≤ q) (b2 b5 side t : Nat) (ht : t < 8) (h1 : 1 ≤ side) (h6 : side ≤ 6) (w : World) :
    HandsV mvV q Tryd.prog 98 #[.pointer (some ⟨b2, 0, none⟩), .pointer (some ⟨b5, 0, none⟩)] (Pl.mvs side t (side * side)) (MK b2 b5 side t) w := fun l J Jx W _ hA hK hY h0 =>
  moves1_in q hq l b2 b5 side t ht h1 h6 J Jx hK hY W hA h0
end Go.Proofs.YtidcedilfhmllaaDoor

/- Layer 3, plain: classes, sign by sign and edge by edge. -/
namespace Pl

theorem unlAll_append : ∀ (A B : List (Nat × Nat × Bool)) (q : List Nat × List Int), unlAll (A ++ B) q = unlAll B (unlAll A q)
  | [], _, _ => rfl
  | _ :: A, B, _ => unlAll_append A B _
/-- the edges of a sign -/
def edg (m : Bool) (l : List (Nat × Nat)) : List (Nat × Nat × Bool) := l.map fun e => (e.1, e.2, m)
theorem edges_cons (s : Nat) (g : Nat × Bool) (G : List (Nat × Bool)) : edges s (g :: G) = edg g.2 (mvs s g.1 (s * s)) ++ edges s G := by
  unfold edges edg mvs
  rw [List.flatMap_cons, List.map_map]
  rfl
theorem edges_append (s : Nat) (G H : List (Nat × Bool)) : edges s (G ++ H) = edges s G ++ edges s H := by unfold edges; rw [List.flatMap_append]
theorem edg_snoc (m : Bool) (l : List (Nat × Nat)) (e : Nat × Nat) : edg m (l ++ [e]) = edg m l ++ [(e.1, e.2, m)] := by unfold edg; rw [List.map_append]; rfl

/-- lists of classes -/
structure CL (N : Nat) (q : List Nat × List Int) : Prop where
  l : q.1.length = N
  w : q.2.length = N
  lt : ∀ k, k < N → lsF q.1 k < N
  tri : ∀ k, k < N → wsF q.2 k = 1 ∨ wsF q.2 k = -1 ∨ wsF q.2 k = 0
theorem CL.start (N : Nat) : CL N (List.range N, List.replicate N 1) := by
  refine ⟨List.length_range, List.length_replicate, fun k hk => ?_, fun k hk => ?_⟩
  · rw [lsF_at (by rw [List.length_range]; exact hk), List.getElem_range]; exact hk
  · rw [wsF_at (by rw [List.length_replicate]; exact hk), List.getElem_replicate]; exact .inl rfl
theorem across_tri {N : Nat} {q : List Nat × List Int} (h : CL N q) {x y : Nat} (hx : x < N) (hy : y < N) (e : Bool) : across (lsF q.1) (wsF q.2) x y e = 1 ∨ across (lsF q.1) (wsF q.2) x y e = -1 ∨ across (lsF q.1) (wsF q.2) x y e = 0 := by
  unfold across
  split
  · exact .inr (.inr rfl)
  · exact tri_mul (tri_mul (h.tri x hx) (by rcases sg_cases e with h | h <;> simp [h])) (h.tri y hy)
theorem CL.step {N : Nat} {q : List Nat × List Int} (h : CL N q) {x y : Nat} (hx : x < N) (hy : y < N) (e : Bool) : CL N (unlL q.1 x y, unlW q.1 q.2 x y e) := by
  have hl := h.l
  have hw := h.w
  refine ⟨by rw [unlL_len]; exact hl, by rw [unlW_len _ _ _ _ _ (by omega)]; exact hl, fun k hk => ?_, fun k hk => ?_⟩
  · rw [lsF_unl (by omega)]
    unfold unL
    split
    · unfold stay
      have := h.lt x hx
      omega
    · exact h.lt k hk
  · rw [wsF_unl (by omega) (by omega)]
    have ha := across_tri h hx hy e
    unfold unW
    split
    · exact tri_mul (h.tri k hk) ha
    · split
      · exact tri_mul (h.tri k hk) (tri_mul ha ha)
      · exact h.tri k hk
/-- classes, behind some signs and some cells -/
def clsTo (s : Nat) (G : List (Nat × Bool)) (m : Bool) (pre : List (Nat × Nat)) : List Nat × List Int := unlAll (edges s G ++ edg m pre) (List.range (s * s), List.replicate (s * s) 1)
theorem clsTo_nil (s : Nat) (G : List (Nat × Bool)) (m : Bool) : clsTo s G m [] = clsL s G := by
  unfold clsTo clsL edg
  rw [List.map_nil, List.append_nil]
theorem clsTo_snoc (s : Nat) (G : List (Nat × Bool)) (m : Bool) (pre : List (Nat × Nat)) (e : Nat × Nat) : clsTo s G m (pre ++ [e]) = (unlL (clsTo s G m pre).1 e.1 e.2, unlW (clsTo s G m pre).1 (clsTo s G m pre).2 e.1 e.2 m) := by
  unfold clsTo
  rw [edg_snoc, ← List.append_assoc, unlAll_append _ [_]]
  rfl
theorem clsTo_all (s : Nat) (G : List (Nat × Bool)) (t : Nat) (m : Bool) : clsTo s G m (mvs s t (s * s)) = clsL s (G ++ [(t, m)]) := by
  unfold clsTo clsL
  rw [edges_append, edges_cons]
  show _ = unlAll (edges s G ++ (edg m (mvs s t (s * s)) ++ [])) _
  rw [List.append_nil]
theorem mvs_mem {s t n : Nat} {e : Nat × Nat} (h : e ∈ mvs s t n) : e.1 < n ∧ e.2 = tk s t e.1 := by
  unfold mvs at h
  obtain ⟨x, hx, rfl⟩ := List.mem_map.1 h
  exact ⟨List.mem_range.1 hx, rfl⟩
theorem unlAll_CL {N : Nat} : ∀ (F : List (Nat × Nat × Bool)) (q : List Nat × List Int), CL N q → (∀ e ∈ F, e.1 < N ∧ e.2.1 < N) → CL N (unlAll F q)
  | [], _, h, _ => h
  | e :: r, q, h, hF => unlAll_CL r _ (h.step (hF e List.mem_cons_self).1 (hF e List.mem_cons_self).2 _) (fun x hx => hF x (List.mem_cons_of_mem _ hx))
theorem clsTo_CL {s : Nat} (hs : s ≤ 6) {G : List (Nat × Bool)} (hG : ∀ g ∈ G, g.1 < 8) (m : Bool) {t : Nat} (ht : t < 8) {pre : List (Nat × Nat)} (hp : ∀ e ∈ pre, e ∈ mvs s t (s * s)) : CL (s * s) (clsTo s G m pre) := by
  refine unlAll_CL _ _ (CL.start _) (fun e he => ?_)
  rcases List.mem_append.1 he with he | he
  · obtain ⟨x, y, m'⟩ := e
    obtain ⟨hx, u, hu, rfl⟩ := mem_edges.1 he
    exact ⟨hx, tk_lt hs hx (hG _ hu)⟩
  · unfold edg at he
    obtain ⟨a, ha, rfl⟩ := List.mem_map.1 he
    obtain ⟨h1, h2⟩ := mvs_mem (hp a ha)
    refine ⟨h1, ?_⟩
    simp only
    rw [h2]
    exact tk_lt hs h1 ht
theorem clsL_CL {s : Nat} (hs : s ≤ 6) {G : List (Nat × Bool)} (hG : ∀ g ∈ G, g.1 < 8) : CL (s * s) (clsL s G) := by
  have := clsTo_CL hs hG false (t := 0) (by omega) (pre := []) (fun e he => (List.not_mem_nil he).elim)
  rwa [clsTo_nil] at this
end Pl

/- Layer 3, plain: freedom; spreading a shape over the plates. -/
namespace Pl
/-- freedom -/
def frd (s : Nat) (G : List (Nat × Bool)) : Int := free s G (lsF (clsL s G).1) (wsF (clsL s G).2)

/-- one cell of one plate -/
def pcs (P : Nat → Nat → Int) (q y : Nat) (v : Int) : Nat → Nat → Int := fun a c => if a = q then if c = y then v else P a c else P a c
/-- a state's cells, behind some of them -/
def sprM (sh : Nat → Int) (q : Nat) (m : Bool) (P : Nat → Nat → Int) (l : List (Nat × Nat)) : Nat → Nat → Int := l.foldl (fun P e => pcs P q e.2 (if m then -sh e.1 else sh e.1)) P
theorem sprM_snoc (sh : Nat → Int) (q : Nat) (m : Bool) (P : Nat → Nat → Int) (l : List (Nat × Nat)) (e : Nat × Nat) : sprM sh q m P (l ++ [e]) = pcs (sprM sh q m P l) q e.2 (if m then -sh e.1 else sh e.1) := by
  unfold sprM
  rw [List.foldl_append]
  rfl
/-- spread -/
def spr (s : Nat) (sh : Nat → Int) (P : Nat → Nat → Int) (Y : List St) : Nat → Nat → Int := Y.foldl (fun P y => sprM sh y.p.toNat y.m P (mvs s y.t (s * s))) P
theorem spr_snoc (s : Nat) (sh : Nat → Int) (P : Nat → Nat → Int) (Y : List St) (y : St) : spr s sh P (Y ++ [y]) = sprM sh y.p.toNat y.m (spr s sh P Y) (mvs s y.t (s * s)) := by
  unfold spr
  rw [List.foldl_append]
  rfl
end Pl
