/- Contracts of the specification of layer 3: Classes. Written by genCz.py. -/
import Derived.Test.YtidcedilfhmllaaDoorZJzzi
import Derived.Test.YtidcedilfhmllaaDoorZJu
import Derived.Test.YtidcedilfhmllaaDoorZ18
import Derived.Test.YtidcedilfhmllaaDoorZ03
set_option linter.unusedSimpArgs false
set_option linter.unusedVariables false
namespace Pl
/-- the least cell of a class, as the specification finds it -/
def rls (s x : Nat) (H : List (Nat × Bool)) : Nat := H.foldl (fun a g => min a (tk s g.1 x)) x
def rpn (s x : Nat) (H : List (Nat × Bool)) : Bool := H.any fun g => tk s g.1 x == x && g.2
def rwy (s x l : Nat) (H : List (Nat × Bool)) : Int := if H.any (fun g => tk s g.1 l == x && !g.2) then 1 else -1
def rLst (s : Nat) (G : List (Nat × Bool)) (x : Nat) : Nat := rls s x G
def rWay (s : Nat) (G : List (Nat × Bool)) (x : Nat) : Int := if rpn s x G then 0 else rwy s x (rls s x G) G
theorem rls_snoc (s x : Nat) (H : List (Nat × Bool)) (g : Nat × Bool) : rls s x (H ++ [g]) = min (rls s x H) (tk s g.1 x) := by unfold rls; rw [List.foldl_append]; rfl
theorem rpn_snoc (s x : Nat) (H : List (Nat × Bool)) (g : Nat × Bool) : rpn s x (H ++ [g]) = (rpn s x H || (tk s g.1 x == x && g.2)) := by unfold rpn; rw [List.any_append]; simp
theorem rwy_snoc (s x l : Nat) (H : List (Nat × Bool)) (g : Nat × Bool) : rwy s x l (H ++ [g]) = if (tk s g.1 l == x && !g.2) = true then 1 else rwy s x l H := by
  have e : ([g].any fun g => tk s g.1 l == x && !g.2) = (tk s g.1 l == x && !g.2) := by simp only [List.any_cons, List.any_nil, Bool.or_false]
  unfold rwy
  rw [List.any_append, e]
  generalize (tk s g.1 l == x && !g.2) = b
  generalize (H.any fun g => tk s g.1 l == x && !g.2) = c
  cases b <;> cases c <;> rfl
theorem rls_le (s x : Nat) : ∀ (H : List (Nat × Bool)), rls s x H ≤ x ∧ ∀ g ∈ H, rls s x H ≤ tk s g.1 x := fun H => by
  have key : ∀ (H : List (Nat × Bool)) (a : Nat), H.foldl (fun a g => min a (tk s g.1 x)) a ≤ a ∧ ∀ g ∈ H, H.foldl (fun a g => min a (tk s g.1 x)) a ≤ tk s g.1 x := by
    intro H
    induction H with
    | nil => intro a; exact ⟨Nat.le_refl _, fun g hg => by cases hg⟩
    | cons b r ih =>
      intro a
      obtain ⟨h1, h2⟩ := ih (min a (tk s b.1 x))
      refine ⟨Nat.le_trans h1 (Nat.min_le_left _ _), fun g hg => ?_⟩
      rcases List.mem_cons.1 hg with rfl | hg
      · exact Nat.le_trans h1 (Nat.min_le_right _ _)
      · exact h2 g hg
  exact key H x
theorem rls_ex (s x : Nat) : ∀ (H : List (Nat × Bool)), rls s x H = x ∨ ∃ g ∈ H, rls s x H = tk s g.1 x := fun H => by
  have key : ∀ (H : List (Nat × Bool)) (a : Nat), H.foldl (fun a g => min a (tk s g.1 x)) a = a ∨ ∃ g ∈ H, H.foldl (fun a g => min a (tk s g.1 x)) a = tk s g.1 x := by
    intro H
    induction H with
    | nil => intro a; exact .inl rfl
    | cons b r ih =>
      intro a
      rcases ih (min a (tk s b.1 x)) with h | ⟨g, hg, h⟩
      · rcases Nat.le_total a (tk s b.1 x) with c | c
        · left
          show r.foldl _ _ = a
          rw [h, Nat.min_eq_left c]
        · right
          refine ⟨b, List.mem_cons_self, ?_⟩
          show r.foldl _ _ = _
          rw [h, Nat.min_eq_right c]
      · exact .inr ⟨g, List.mem_cons_of_mem _ hg, h⟩
  exact key H x
/-- what the specification finds is what uniting leaves, if the signs are a group -/
theorem rcl_eq {s : Nat} (hs : s ≤ 6) {G : List (Nat × Bool)} (h : Grp G) {l : Nat → Nat} {w : Nat → Int} (hu : Uf (s * s) (edges s G) l w) {x : Nat} (hx : x < s * s) : rLst s G x = l x ∧ rWay s G x = w x := by
  have c := h.cls hs hu hx
  have e1 : rls s x G = l x := by
    obtain ⟨g, hg, hgx⟩ := c.at_
    obtain ⟨h1, h2⟩ := rls_le s x G
    refine Nat.le_antisymm (by rw [← hgx]; exact h2 g hg) ?_
    rcases rls_ex s x G with e | ⟨k, hk, e⟩
    · rw [e]; exact hu.le x hx
    · rw [e]; exact c.min k hk
  have e2 : rpn s x G = true ↔ w x = 0 := by
    unfold rpn
    rw [List.any_eq_true, c.pin]
    exact ⟨fun ⟨g, hg, k⟩ => by rw [Bool.and_eq_true, beq_iff_eq] at k; exact ⟨g, hg, k.2, k.1⟩, fun ⟨g, hg, k1, k2⟩ => ⟨g, hg, by rw [Bool.and_eq_true, beq_iff_eq]; exact ⟨k2, k1⟩⟩⟩
  refine ⟨e1, ?_⟩
  unfold rWay
  by_cases hw : w x = 0
  · rw [if_pos (e2.2 hw), hw]
  · rw [if_neg (fun k => hw (e2.1 k)), e1]
    unfold rwy
    have e3 : (G.any fun g => tk s g.1 (l x) == x && !g.2) = true ↔ w x = 1 := by
      rw [List.any_eq_true, c.one hw]
      exact ⟨fun ⟨g, hg, k⟩ => by rw [Bool.and_eq_true, beq_iff_eq, Bool.not_eq_true'] at k; exact ⟨g, hg, k.2, k.1⟩, fun ⟨g, hg, k1, k2⟩ => ⟨g, hg, by rw [Bool.and_eq_true, beq_iff_eq, Bool.not_eq_true']; exact ⟨k2, k1⟩⟩⟩
    rcases hu.tri x hx with t | t | t
    · rw [if_pos (e3.2 t), t]
    · rw [if_neg (fun k => by have := e3.1 k; omega), t]
    · exact absurd t hw
end Pl
namespace Go.Proofs.YtidcedilfhmllaaDoor
open Go.RowKit
set_option linter.unusedVariables false
set_option linter.unusedSimpArgs false

/-- two rows of one's own in the fields of a box, above the box of a result -/
structure K2 (w W : World) (xs ys : List Value) : Prop where
  e : ∃ v3 v4, W.cell? ⟨w.heap.size + 1, 0, none⟩ = some v3 ∧ W.cell? ⟨w.heap.size + 1, 1, none⟩ = some v4 ∧ W.ownsRow (w.heap.size + 2) 3 1 v3 xs.length xs ∧ W.ownsRow (w.heap.size + 2) 3 1 v4 ys.length ys ∧ (∀ g, v3.ownBlock = some g → v4.ownBlock ≠ some g)
  f : ∀ i, W.frozen? ⟨w.heap.size + 1, i, none⟩ = false
  r : W.rowIs w.heap.size 44 2 (fun _ => .slice none 0 0)
  b : Below w.heap.size w W
  z : w.heap.size + 2 ≤ W.heap.size
theorem K2.below {w W W' : World} {xs ys : List Value} (h : K2 w W xs ys) (hb : Below W.heap.size W W') : K2 w W' xs ys := by
  obtain ⟨v3, v4, d3, d4, o3, o4, hne⟩ := h.e
  exact ⟨⟨v3, v4, kept1 d3 hb, kept1 d4 hb, ownBelow o3 hb, ownBelow o4 hb, hne⟩, fun i => (hb.frozen (p := ⟨w.heap.size + 1, i, none⟩) (by have := h.z; show w.heap.size + 1 < _; omega)).trans (h.f i), Below.row' hb h.r, h.b.trans (hb.mono h.b.size), Nat.le_trans h.z hb.size⟩

theorem K2.app1 {w W w4 : World} {xs ys : List Value} {v3 v4 v' u : Value} {ob : Obj} (h : K2 w W xs ys) (d3 : W.cell? ⟨w.heap.size + 1, 0, none⟩ = some v3) (d4 : W.cell? ⟨w.heap.size + 1, 1, none⟩ = some v4) (o3 : W.ownsRow (w.heap.size + 2) 3 1 v3 xs.length xs) (o4 : W.ownsRow (w.heap.size + 2) 3 1 v4 ys.length ys) (hne : ∀ g, v3.ownBlock = some g → v4.ownBlock ≠ some g)
    (hown : w4.ownsRow (w.heap.size + 2) 3 1 v' (xs.length + 1) (xs ++ [u])) (hgrow : (W.alloc ob).grownBy w4 v3.ownBlock) (hat : v'.ownBlock = v3.ownBlock ∨ v'.ownBlock = some (W.heap.size + 1)) :
    w4.cell? ⟨w.heap.size + 1, 0, none⟩ = some v3 ∧ w4.frozen? ⟨w.heap.size + 1, 0, none⟩ = false ∧ K2 w (w4.setCell ⟨w.heap.size + 1, 0, none⟩ v') (xs ++ [u]) ys := by
  have hbt := butGrown hgrow
  have hz := h.z
  have hfar : ∀ k, k < w.heap.size + 2 → ¬ v3.ownBlock = some k := fun k hk e => by have := ownFar o3 e; omega
  have hA := below_alloc (Below.refl W.heap.size W) ob
  have qp := hbt.kept (cell_alloc d3 ob) (hfar (w.heap.size + 1) (by omega))
  have qq := hbt.kept (cell_alloc d4 ob) (hfar (w.heap.size + 1) (by omega))
  have gf : ∀ i, w4.frozen? ⟨w.heap.size + 1, i, none⟩ = false := fun i => (hbt.frozen (p := ⟨w.heap.size + 1, i, none⟩) (by simp; omega) (hfar (w.heap.size + 1) (by omega))).trans ((hA.frozen (p := ⟨w.heap.size + 1, i, none⟩) (by show w.heap.size + 1 < _; omega)).trans (h.f i))
  have kk := (o4.alloc ob).kept hgrow (by
    cases hv : v4.ownBlock with
    | none => exact .inl rfl
    | some g => exact .inr (fun e => hne g e.symm hv))
  have hz4 : w.heap.size + 2 ≤ w4.heap.size := by have := hbt.size; simp at this; omega
  have hr4 : w4.rowIs w.heap.size 44 2 (fun _ => .slice none 0 0) := hbt.row (Below.row' hA h.r) (hfar w.heap.size (by omega))
  have hne2 : ∀ g, v'.ownBlock = some g → v4.ownBlock ≠ some g := fun g hg e => by
    rcases hat with hh | hh
    · exact hne g (hh.symm.trans hg) e
    · rw [hh] at hg
      cases hg
      have := (o4.lt _ e).2
      omega
  refine ⟨qp, gf 0, ⟨⟨v', v4, ?_, ?_, ?_, ?_, hne2⟩, fun i => ?_, ?_, ?_, ?_⟩⟩
  · simp [go_sem, qp]
  · exact (World.cell?_setCell_other _ _ _ _ (by simp)).trans qq
  · have h := ownsRow_setCell_below hown (a := ⟨w.heap.size + 1, 0, none⟩) (by show w.heap.size + 1 < _; omega) v'
    rw [List.length_append]
    exact h
  · exact ownsRow_setCell_below kk (a := ⟨w.heap.size + 1, 0, none⟩) (by show w.heap.size + 1 < _; omega) v'
  · have := gf i
    simp [go_sem, this]
  · exact ((But.refl (fun k => k = w.heap.size + 1) w4).setCell (p := ⟨w.heap.size + 1, 0, none⟩) (.inr rfl) v').row hr4 (fun e => by omega)
  · exact (h.b.trans ((hA.mono h.b.size).trans (hbt.below (by have := h.b.size; simp; omega) (fun k hk => hfar k (by omega))))).setCell (p := ⟨w.heap.size + 1, 0, none⟩) (by show w.heap.size ≤ w.heap.size + 1; omega) v'
  · simpa using hz4
theorem K2.app2 {w W w4 : World} {xs ys : List Value} {v3 v4 v' u : Value} {ob : Obj} (h : K2 w W xs ys) (d3 : W.cell? ⟨w.heap.size + 1, 0, none⟩ = some v3) (d4 : W.cell? ⟨w.heap.size + 1, 1, none⟩ = some v4) (o3 : W.ownsRow (w.heap.size + 2) 3 1 v3 xs.length xs) (o4 : W.ownsRow (w.heap.size + 2) 3 1 v4 ys.length ys) (hne : ∀ g, v3.ownBlock = some g → v4.ownBlock ≠ some g)
    (hown : w4.ownsRow (w.heap.size + 2) 3 1 v' (ys.length + 1) (ys ++ [u])) (hgrow : (W.alloc ob).grownBy w4 v4.ownBlock) (hat : v'.ownBlock = v4.ownBlock ∨ v'.ownBlock = some (W.heap.size + 1)) :
    w4.cell? ⟨w.heap.size + 1, 1, none⟩ = some v4 ∧ w4.frozen? ⟨w.heap.size + 1, 1, none⟩ = false ∧ K2 w (w4.setCell ⟨w.heap.size + 1, 1, none⟩ v') xs (ys ++ [u]) := by
  have hbt := butGrown hgrow
  have hz := h.z
  have hfar : ∀ k, k < w.heap.size + 2 → ¬ v4.ownBlock = some k := fun k hk e => by have := ownFar o4 e; omega
  have hA := below_alloc (Below.refl W.heap.size W) ob
  have qp := hbt.kept (cell_alloc d4 ob) (hfar (w.heap.size + 1) (by omega))
  have qq := hbt.kept (cell_alloc d3 ob) (hfar (w.heap.size + 1) (by omega))
  have gf : ∀ i, w4.frozen? ⟨w.heap.size + 1, i, none⟩ = false := fun i => (hbt.frozen (p := ⟨w.heap.size + 1, i, none⟩) (by simp; omega) (hfar (w.heap.size + 1) (by omega))).trans ((hA.frozen (p := ⟨w.heap.size + 1, i, none⟩) (by show w.heap.size + 1 < _; omega)).trans (h.f i))
  have kk := (o3.alloc ob).kept hgrow (by
    cases hv : v3.ownBlock with
    | none => exact .inl rfl
    | some g => exact .inr (fun e => hne g hv e.symm))
  have hz4 : w.heap.size + 2 ≤ w4.heap.size := by have := hbt.size; simp at this; omega
  have hr4 : w4.rowIs w.heap.size 44 2 (fun _ => .slice none 0 0) := hbt.row (Below.row' hA h.r) (hfar w.heap.size (by omega))
  have hne2 : ∀ g, v3.ownBlock = some g → v'.ownBlock ≠ some g := fun g hg e => by
    rcases hat with hh | hh
    · exact hne g hg (hh.symm.trans e)
    · rw [hh] at e
      cases e
      have := (o3.lt _ hg).2
      omega
  refine ⟨qp, gf 1, ⟨⟨v3, v', ?_, ?_, ?_, ?_, hne2⟩, fun i => ?_, ?_, ?_, ?_⟩⟩
  · exact (World.cell?_setCell_other _ _ _ _ (by simp)).trans qq
  · simp [go_sem, qp]
  · exact ownsRow_setCell_below kk (a := ⟨w.heap.size + 1, 1, none⟩) (by show w.heap.size + 1 < _; omega) v'
  · have h := ownsRow_setCell_below hown (a := ⟨w.heap.size + 1, 1, none⟩) (by show w.heap.size + 1 < _; omega) v'
    rw [List.length_append]
    exact h
  · have := gf i
    simp [go_sem, this]
  · exact ((But.refl (fun k => k = w.heap.size + 1) w4).setCell (p := ⟨w.heap.size + 1, 1, none⟩) (.inr rfl) v').row hr4 (fun e => by omega)
  · exact (h.b.trans ((hA.mono h.b.size).trans (hbt.below (by have := h.b.size; simp; omega) (fun k hk => hfar k (by omega))))).setCell (p := ⟨w.heap.size + 1, 1, none⟩) (by show w.heap.size ≤ w.heap.size + 1; omega) v'
  · simpa using hz4

def lsV (s : Nat) (G : List (Nat × Bool)) (k : Nat) : List Value := ((List.range k).map fun x => (Pl.rLst s G x : Int)).map fun z => Value.int .i64 z
def wyV (s : Nat) (G : List (Nat × Bool)) (k : Nat) : List Value := ((List.range k).map fun x => Pl.rWay s G x).map fun z => Value.int .i64 z
theorem lsV_succ (s : Nat) (G : List (Nat × Bool)) (k : Nat) : lsV s G (k + 1) = lsV s G k ++ [.int .i64 (Pl.rLst s G k : Int)] := by unfold lsV; rw [List.range_succ, List.map_append, List.map_append]; rfl
theorem wyV_succ (s : Nat) (G : List (Nat × Bool)) (k : Nat) : wyV s G (k + 1) = wyV s G k ++ [.int .i64 (Pl.rWay s G k)] := by unfold wyV; rw [List.range_succ, List.map_append, List.map_append]; rfl
theorem lsV_len (s : Nat) (G : List (Nat × Bool)) (k : Nat) : (lsV s G k).length = k := by unfold lsV; simp
theorem wyV_len (s : Nat) (G : List (Nat × Bool)) (k : Nat) : (wyV s G k).length = k := by unfold wyV; simp
theorem take_snoc {α : Type} {H : List α} {i : Nat} (h : i < H.length) : H.take (i + 1) = H.take i ++ [H[i]] := List.take_succ_eq_append_getElem h
theorem ns_but {T : Nat → Prop} {W W' : World} {a : Option Addr} {l : List Int} (h : NsAt W a l) (hb : But T W W') (hf : ∀ y, a = some y → ¬ T y.block) : NsAt W' a l := fun k hk => by
  obtain ⟨y, rfl, hc⟩ := h k hk
  refine ⟨y, rfl, hb.kept hc ?_⟩
  have hyb : (y.add k).block = y.block := by unfold Addr.add; split <;> rfl
  rw [hyb]
  exact hf y rfl
theorem cl_row (w : World) : (w.alloc (Obj.cells #[.slice none 0 0, .slice none 0 0] 44)).rowIs w.heap.size 44 2 (fun _ => .slice none 0 0) :=
  World.rowIs_alloc w _ _ _ (fun i hi => by
    match i, hi with
    | 0, _ => rfl
    | 1, _ => rfl)
/-- what Classes leaves -/
def RcPost (w : World) (s : Nat) (G : List (Nat × Bool)) (N : Nat) (e : Ending) (w' : World) : Prop :=
  ∃ b1 c1 b2 c2, e = .returned (.agg #[.slice b1 N c1, .slice b2 N c2]) ∧ Hid (NsAt w' b1 ((List.range N).map fun x => (Pl.rLst s G x : Int))) ∧ Hid (NsAt w' b2 ((List.range N).map fun x => Pl.rWay s G x)) ∧ Hid (∀ y, b1 = some y → w.heap.size ≤ y.block ∧ y.block < w'.heap.size) ∧ Hid (∀ y, b2 = some y → w.heap.size ≤ y.block ∧ y.block < w'.heap.size) ∧ Below w.heap.size w w'

set_option maxRecDepth 100000 in
set_option maxHeartbeats 16000000 in
theorem rClasses_any (s : Nat) (h1 : 1 ≤ s) (h6 : s ≤ 6) (a : Option Addr) (n cap : Nat) (G : List (Nat × Bool)) (hn : Hid (G.length = n)) (hn2 : n ≤ 1000) (hG : Hid (∀ g ∈ G, g.1 < 8)) (w : World) (hg : Hid (SgsAt w a G)) :
    Calls Tryd.prog 20 #[.int .i64 (s : Int), .slice a n cap] w (RcPost w s G (s * s)) := by
  obtain ⟨i0, hi, hz0, hz1, hz2⟩ := info_parts infoI64
  have hs2 : ((s * s : Nat) : Int) = (s : Int) * (s : Int) := Int.natCast_mul _ _
  have hs3 : s * s ≤ 36 := Nat.mul_le_mul h6 h6
  have hs4 : (s : Int) * (s : Int) ≤ 36 := by omega
  have hs5 : (0 : Int) ≤ (s : Int) * (s : Int) := by omega
  have HT := Lib.hid (fun (t x : Nat) (ht : t < 8) (hx : x < s * s) (W : World) => pTurned_any s t x h1 h6 ht hx W)
  have hte := Lib.hid (fun (t x : Nat) (ht : t < 8) (hx : x < s * s) => Pl.turned_eq h6 hx ht)
  have htl := Lib.hid (fun (t x : Nat) (ht : t < 8) (hx : x < s * s) => Pl.tk_lt h6 hx ht)
  obtain ⟨N, hN⟩ : ∃ N, s * s = N := ⟨_, rfl⟩
  rw [hN] at hs2 hs3 HT hte htl
  rw [hN]
  clear hN
  replace hs2 := Lib.hid hs2
  go_enter Tryd.func20, Tryd.ntmps20
  go_upto_region 2 with fail
  have hK : Hid (K2 w ((w.alloc (Obj.cells #[.slice none 0 0, .slice none 0 0] 44)).alloc (Obj.cells #[.slice none 0 0, .slice none 0 0] 44)) [] []) := Lib.hid ⟨⟨.slice none 0 0, .slice none 0 0, by simp [go_sem], by simp [go_sem], World.ownsRow_nil _ _ _ _, World.ownsRow_nil _ _ _ _, fun g hg => by cases hg⟩, fun i => by simp [go_sem], (cl_row w).alloc _, below_alloc (below_alloc (Below.refl _ _) _) _, by simp⟩
  generalize (w.alloc (Obj.cells #[.slice none 0 0, .slice none 0 0] 44)).alloc (Obj.cells #[.slice none 0 0, .slice none 0 0] 44) = X at *
  go_wp2
  go_loopw [6] (fun iv wr => ∃ (x : Nat), x ≤ N ∧ iv = .int .i64 (x : Int) ∧ Hid (K2 w wr (lsV s G x) (wyV s G x))) (fun iv _ => N - (RowKit.intOf iv).toNat)
  case atStart => exact ⟨0, Nat.zero_le _, rfl, hK⟩
  case round =>
    clear hK X
    obtain ⟨x, hx, rfl, hK⟩ := hrel
    by_cases hlt : x < N
    · have hi5 : (x : Int) < (s : Int) * (s : Int) := by rw [← hs2.out]; omega
      have hi6 : (0 : Int) ≤ (x : Int) := by omega
      go_wp2
      go_loopw [9, 7, 8] (fun iv lv pv W => ∃ (i : Nat), i ≤ n ∧ iv = .int .i64 (i : Int) ∧ lv = .int .i64 (Pl.rls s x (G.take i) : Int) ∧ pv = .bool (Pl.rpn s x (G.take i)) ∧ W = wr) (fun iv _ _ _ => n - (RowKit.intOf iv).toNat)
      case atStart => exact ⟨0, Nat.zero_le _, rfl, rfl, rfl, rfl⟩
      case round =>
        obtain ⟨i, hi', rfl, rfl, rfl, rfl⟩ := hrel
        by_cases hlt2 : i < n
        · have j3 : (i : Int) < (n : Int) := by omega
          have j4 : (0 : Int) ≤ (i : Int) := by omega
          have hiG : i < G.length := by have := hn.out; omega
          obtain ⟨y, rfl, c0, c1⟩ := hg.out i hiG
          obtain ⟨t, mm, hz⟩ : ∃ t mm, G.getD i (0, false) = (t, mm) := ⟨_, _, rfl⟩
          have hgi : G[i] = (t, mm) := by rw [← hz, List.getD, List.getElem?_eq_getElem hiG]; rfl
          have ht : t < 8 := by have := hG.out _ (List.getElem_mem hiG); rw [hgi] at this; exact this
          rw [hz] at c0 c1
          simp only at c0 c1
          replace c0 := kept1 c0 hK.out.b
          replace c1 := kept1 c1 hK.out.b
          have htk := take_snoc hiG
          rw [hgi] at htk
          have hl2 := Pl.rls_snoc s x (G.take i) (t, mm)
          have hp2 := Pl.rpn_snoc s x (G.take i) (t, mm)
          simp only at hl2 hp2
          rw [← htk] at hl2 hp2
          have HT2 := HT.out t x ht hlt
          rw [hte.out t x ht hlt] at HT2
          obtain ⟨u, hu⟩ : ∃ u, Pl.tk s t x = u := ⟨_, rfl⟩
          rw [hu] at hl2 hp2 HT2
          replace HT2 := Lib.hid HT2
          obtain ⟨lc, hlc⟩ : ∃ lc, Pl.rls s x (G.take i) = lc := ⟨_, rfl⟩
          obtain ⟨pc, hpc⟩ : ∃ pc, Pl.rpn s x (G.take i) = pc := ⟨_, rfl⟩
          rw [hlc] at hl2 ⊢
          rw [hpc] at hp2 ⊢
          have hmn : min (lc : Int) (u : Int) = ((min lc u : Nat) : Int) := by omega
          have hux : ((u : Int) == (x : Int)) = (u == x) := by rw [Bool.eq_iff_iff, beq_iff_eq, beq_iff_eq]; omega
          replace hl2 := Lib.hid hl2
          replace hp2 := Lib.hid hp2
          clear hz hgi hiG ht htk hu hlc hpc
          go_wp2_with fail
          refine (HT2.out _).mono ?_
          rintro e w2 ⟨rfl, hw2⟩
          subst hw2
          go_upto_region 12 with fail
          cases pc
          · by_cases hxx : u = x
            · have hub : ((u : Int) == (x : Int)) = true := by rw [hux]; simpa using hxx
              have hpn : Hid (Pl.rpn s x (G.take (i + 1)) = mm) := Lib.hid (by rw [hp2.out, ← hux, hub]; rfl)
              clear hp2 hux
              go_wp2
              go_roundw
              case rel => exact ⟨i + 1, by omega, by go_num, by rw [hl2.out] <;> first | rfl | rw [hmn] | simp, by rw [hpn.out], by first | rfl | trivial⟩
              case measure => first | (simp [RowKit.intOf]; done) | (simp [RowKit.intOf]; omega) | omega
            · have hub : ((u : Int) == (x : Int)) = false := by rw [hux]; simpa using hxx
              have hpn : Hid (Pl.rpn s x (G.take (i + 1)) = false) := Lib.hid (by rw [hp2.out, ← hux, hub]; rfl)
              clear hp2 hux hxx
              go_wp2
              go_roundw
              case rel => exact ⟨i + 1, by omega, by go_num, by rw [hl2.out] <;> first | rfl | rw [hmn] | simp, by rw [hpn.out], by first | rfl | trivial⟩
              case measure => first | (simp [RowKit.intOf]; done) | (simp [RowKit.intOf]; omega) | omega
          · have hpn : Hid (Pl.rpn s x (G.take (i + 1)) = true) := Lib.hid (by rw [hp2.out]; rfl)
            clear hp2 hux
            go_wp2
            go_roundw
            case rel => exact ⟨i + 1, by omega, by go_num, by rw [hl2.out] <;> first | rfl | rw [hmn] | simp, by rw [hpn.out], by first | rfl | trivial⟩
            case measure => first | (simp [RowKit.intOf]; done) | (simp [RowKit.intOf]; omega) | omega
        · obtain rfl : i = n := by omega
          have j3 : ¬ (i : Int) < (i : Int) := by omega
          have hta : G.take i = G := List.take_of_length_le (by have := hn.out; omega)
          rw [hta]
          obtain ⟨hle, _⟩ := Pl.rls_le s x G
          obtain ⟨lc, hlc⟩ : ∃ lc, Pl.rls s x G = lc := ⟨_, rfl⟩
          obtain ⟨pc, hpc⟩ : ∃ pc, Pl.rpn s x G = pc := ⟨_, rfl⟩
          rw [hlc] at hle ⊢
          rw [hpc]
          have hll : lc < N := by omega
          replace hlc := Lib.hid hlc
          replace hpc := Lib.hid hpc
          clear hta hlt2 hi'
          go_wp2
          go_loopw [12, 11] (fun iv v W => ∃ (k : Nat), k ≤ i ∧ iv = .int .i64 (k : Int) ∧ v = .int .i64 (Pl.rwy s x lc (G.take k)) ∧ W = wr) (fun iv _ _ => i - (RowKit.intOf iv).toNat)
          case atStart => exact ⟨0, Nat.zero_le _, rfl, rfl, rfl⟩
          case round =>
            obtain ⟨k, hk', rfl, rfl, rfl⟩ := hrel
            by_cases hlt2 : k < i
            · have j3 : (k : Int) < (i : Int) := by omega
              have j4 : (0 : Int) ≤ (k : Int) := by omega
              have hiG : k < G.length := by have := hn.out; omega
              obtain ⟨y, rfl, c0, c1⟩ := hg.out k hiG
              obtain ⟨t, mm, hz⟩ : ∃ t mm, G.getD k (0, false) = (t, mm) := ⟨_, _, rfl⟩
              have hgi : G[k] = (t, mm) := by rw [← hz, List.getD, List.getElem?_eq_getElem hiG]; rfl
              have ht : t < 8 := by have := hG.out _ (List.getElem_mem hiG); rw [hgi] at this; exact this
              rw [hz] at c0 c1
              simp only at c0 c1
              replace c0 := kept1 c0 hK.out.b
              replace c1 := kept1 c1 hK.out.b
              have htk := take_snoc hiG
              rw [hgi] at htk
              have hw2 := Pl.rwy_snoc s x lc (G.take k) (t, mm)
              simp only at hw2
              rw [← htk] at hw2
              have HT2 := HT.out t lc ht hll
              rw [hte.out t lc ht hll] at HT2
              obtain ⟨u, hu⟩ : ∃ u, Pl.tk s t lc = u := ⟨_, rfl⟩
              rw [hu] at hw2 HT2
              replace HT2 := Lib.hid HT2
              obtain ⟨wc, hwc⟩ : ∃ wc, Pl.rwy s x lc (G.take k) = wc := ⟨_, rfl⟩
              rw [hwc] at hw2 ⊢
              have hux : ((u : Int) == (x : Int)) = (u == x) := by rw [Bool.eq_iff_iff, beq_iff_eq, beq_iff_eq]; omega
              replace hw2 := Lib.hid hw2
              clear hz hgi hiG ht htk hu hwc
              by_cases hxx : u = x
              · have hub : ((u : Int) == (x : Int)) = true := by rw [hux]; simpa using hxx
                cases mm
                · skip
                  have hwn : Hid (Pl.rwy s x lc (G.take (k + 1)) = 1) := Lib.hid (by rw [hw2.out, ← hux, hub]; rfl)
                  clear hw2 hux hxx
                  go_wp2_with fail
                  refine (HT2.out _).mono ?_
                  rintro e w2 ⟨rfl, hw2⟩
                  subst hw2
                  go_wp2
                  go_roundw
                  case rel => exact ⟨k + 1, by omega, by go_num, by rw [hwn.out], by first | rfl | trivial⟩
                  case measure => first | (simp [RowKit.intOf]; done) | (simp [RowKit.intOf]; omega) | omega
                · skip
                  have hwn : Hid (Pl.rwy s x lc (G.take (k + 1)) = wc) := Lib.hid (by rw [hw2.out, ← hux, hub]; rfl)
                  clear hw2 hux hxx
                  go_wp2_with fail
                  refine (HT2.out _).mono ?_
                  rintro e w2 ⟨rfl, hw2⟩
                  subst hw2
                  go_wp2
                  go_roundw
                  case rel => exact ⟨k + 1, by omega, by go_num, by rw [hwn.out], by first | rfl | trivial⟩
                  case measure => first | (simp [RowKit.intOf]; done) | (simp [RowKit.intOf]; omega) | omega
              · have hub : ((u : Int) == (x : Int)) = false := by rw [hux]; simpa using hxx
                have hwn : Hid (Pl.rwy s x lc (G.take (k + 1)) = wc) := Lib.hid (by rw [hw2.out, ← hux, hub]; rfl)
                clear hw2 hux hxx
                go_wp2_with fail
                refine (HT2.out _).mono ?_
                rintro e w2 ⟨rfl, hw2⟩
                subst hw2
                go_wp2
                go_roundw
                case rel => exact ⟨k + 1, by omega, by go_num, by rw [hwn.out], by first | rfl | trivial⟩
                case measure => first | (simp [RowKit.intOf]; done) | (simp [RowKit.intOf]; omega) | omega
            · obtain rfl : k = i := by omega
              have j3 : ¬ (k : Int) < (k : Int) := by omega
              have hta : G.take k = G := List.take_of_length_le (by have := hn.out; omega)
              rw [hta]
              have hLx : Pl.rLst s G x = lc := hlc.out
              have hWx : Pl.rWay s G x = if pc then 0 else Pl.rwy s x lc G := by unfold Pl.rWay; rw [hpc.out, hlc.out]
              have hl1 := lsV_succ s G x
              have hy1 := wyV_succ s G x
              rw [hLx] at hl1
              rw [hWx] at hy1
              obtain ⟨wv, hwv⟩ : ∃ wv, Pl.rwy s x lc G = wv := ⟨_, rfl⟩
              rw [hwv] at hy1 ⊢
              replace hl1 := Lib.hid hl1
              clear hta hlt2 hk' hLx hWx hwv hlc hpc HT hte htl
              obtain ⟨v3, v4, d3, d4, o3, o4, hne⟩ := hK.out.e
              have f3 := hK.out.f 0
              have AP := Lib.hid (fun (w4 : World) (v' : Value) (ob : Obj) => hK.out.app1 (w4 := w4) (v' := v') (u := .int .i64 (lc : Int)) (ob := ob) d3 d4 o3 o4 hne)
              rw [lsV_len] at o3 AP
              have hsz := hK.out.z
              clear hK o4 hne
              cases pc
              · skip
                simp only [Bool.false_eq_true, if_false] at hy1
                replace hy1 := Lib.hid hy1
                go_wp2_with (first
                  | (at_builtin; refine wpList_append_own_at _ rfl (.tmp 77) (.tmp 79) 22 rfl (w.heap.size + 2) 3 i0 (.int .i64 0) 1 8 Tryd.underlying22 hi hz0 hz1 hz2 rfl (by decide) _ _ _ rfl (o3.alloc _) ⟨wr.heap.size, 0, none⟩ 1 1 [.int .i64 (lc : Int)] rfl rfl ?cf1 ?cf2 ?cf3 ?cf4 ?cf5 ?_)
                  | fail)
                case cf2 => first | rfl | (intro u hu; simp at hu; subst hu; rfl)
                case cf3 => unfold maxLen; omega
                case cf4 => omega
                case cf5 => first | omega | (simp; omega)
                intro v3' w4 hown' hgrow hnn hat
                obtain ⟨q3, g3, hK1⟩ := AP.out _ _ _ hown' hgrow hat
                rw [← hl1.out] at hK1
                obtain ⟨pp, cpp, rfl⟩ := ownForm hown'
                clear hown' hgrow hnn hat AP d3 d4 o3 f3 hsz hl1
                go_upto_region 22 with fail
                clear q3 g3
                generalize w4.setCell ⟨w.heap.size + 1, 0, none⟩ (.slice pp (x + 1) cpp) = V at *
                obtain ⟨v3, v4, d3, d4, o3, o4, hne⟩ := hK1.e
                have f4 := hK1.f 1
                have AQ := Lib.hid (fun (w4 : World) (v' u : Value) (ob : Obj) => hK1.app2 (w4 := w4) (v' := v') (u := u) (ob := ob) d3 d4 o3 o4 hne)
                rw [wyV_len] at o4 AQ
                have hsz := hK1.z
                clear hK1 o3 hne
                go_wp2_with (first
                  | (at_builtin; refine wpList_append_own_at _ rfl (.tmp 83) (.tmp 85) 22 rfl (w.heap.size + 2) 3 i0 (.int .i64 0) 1 8 Tryd.underlying22 hi hz0 hz1 hz2 rfl (by decide) _ _ _ rfl (o4.alloc _) ⟨V.heap.size, 0, none⟩ 1 1 [.int .i64 wv] rfl rfl ?df1 ?df2 ?df3 ?df4 ?df5 ?_)
                  | fail)
                case df1 => first | (intro j u hj; match j, hj with | 0, hj => (simp at hj; subst hj; simp [Addr.add])) | (simp [Addr.add, go_sem])
                case df2 => first | rfl | (intro u hu; simp at hu; subst hu; rfl)
                case df3 => unfold maxLen; omega
                case df4 => omega
                case df5 => first | omega | (simp; omega)
                intro v4' w5 hown' hgrow hnn hat
                obtain ⟨q4, g4, hK2⟩ := AQ.out _ _ _ _ hown' hgrow hat
                rw [← hy1.out] at hK2
                replace hK2 := Lib.hid hK2
                obtain ⟨pq, cpq, rfl⟩ := ownForm hown'
                clear hown' hgrow hnn hat AQ d3 d4 o4 f4 hsz hy1
                go_wp2
                go_roundw
                case rel => exact ⟨x + 1, by omega, by go_num, hK2⟩
                case measure => first | (simp [RowKit.intOf]; done) | (simp [RowKit.intOf]; omega) | omega
              · skip
                simp only [if_true] at hy1
                replace hy1 := Lib.hid hy1
                go_wp2_with (first
                  | (at_builtin; refine wpList_append_own_at _ rfl (.tmp 77) (.tmp 79) 22 rfl (w.heap.size + 2) 3 i0 (.int .i64 0) 1 8 Tryd.underlying22 hi hz0 hz1 hz2 rfl (by decide) _ _ _ rfl (o3.alloc _) ⟨wr.heap.size, 0, none⟩ 1 1 [.int .i64 (lc : Int)] rfl rfl ?ct1 ?ct2 ?ct3 ?ct4 ?ct5 ?_)
                  | fail)
                case ct2 => first | rfl | (intro u hu; simp at hu; subst hu; rfl)
                case ct3 => unfold maxLen; omega
                case ct4 => omega
                case ct5 => first | omega | (simp; omega)
                intro v3' w4 hown' hgrow hnn hat
                obtain ⟨q3, g3, hK1⟩ := AP.out _ _ _ hown' hgrow hat
                rw [← hl1.out] at hK1
                obtain ⟨pp, cpp, rfl⟩ := ownForm hown'
                clear hown' hgrow hnn hat AP d3 d4 o3 f3 hsz hl1
                go_upto_region 22 with fail
                clear q3 g3
                generalize w4.setCell ⟨w.heap.size + 1, 0, none⟩ (.slice pp (x + 1) cpp) = V at *
                obtain ⟨v3, v4, d3, d4, o3, o4, hne⟩ := hK1.e
                have f4 := hK1.f 1
                have AQ := Lib.hid (fun (w4 : World) (v' u : Value) (ob : Obj) => hK1.app2 (w4 := w4) (v' := v') (u := u) (ob := ob) d3 d4 o3 o4 hne)
                rw [wyV_len] at o4 AQ
                have hsz := hK1.z
                clear hK1 o3 hne
                go_wp2_with (first
                  | (at_builtin; refine wpList_append_own_at _ rfl (.tmp 83) (.tmp 85) 22 rfl (w.heap.size + 2) 3 i0 (.int .i64 0) 1 8 Tryd.underlying22 hi hz0 hz1 hz2 rfl (by decide) _ _ _ rfl (o4.alloc _) ⟨V.heap.size, 0, none⟩ 1 1 [.int .i64 0] rfl rfl ?dt1 ?dt2 ?dt3 ?dt4 ?dt5 ?_)
                  | fail)
                case dt1 => first | (intro j u hj; match j, hj with | 0, hj => (simp at hj; subst hj; simp [Addr.add])) | (simp [Addr.add, go_sem])
                case dt2 => first | rfl | (intro u hu; simp at hu; subst hu; rfl)
                case dt3 => unfold maxLen; omega
                case dt4 => omega
                case dt5 => first | omega | (simp; omega)
                intro v4' w5 hown' hgrow hnn hat
                obtain ⟨q4, g4, hK2⟩ := AQ.out _ _ _ _ hown' hgrow hat
                rw [← hy1.out] at hK2
                replace hK2 := Lib.hid hK2
                obtain ⟨pq, cpq, rfl⟩ := ownForm hown'
                clear hown' hgrow hnn hat AQ d3 d4 o4 f4 hsz hy1
                go_wp2
                go_roundw
                case rel => exact ⟨x + 1, by omega, by go_num, hK2⟩
                case measure => first | (simp [RowKit.intOf]; done) | (simp [RowKit.intOf]; omega) | omega
    · obtain rfl : x = N := by omega
      have hi5 : ¬ (x : Int) < (s : Int) * (s : Int) := by rw [← hs2.out]; omega
      obtain ⟨v3, v4, d3, d4, o3, o4, hne⟩ := hK.out.e
      rw [lsV_len] at o3
      rw [wyV_len] at o4
      obtain ⟨a1, c1, rfl, n1, _⟩ := ns_of_ownsZ (n := x) (by simp) o3
      obtain ⟨a2, c2, rfl, n2, _⟩ := ns_of_ownsZ (n := x) (by simp) o4
      have r0 := hK.out.r.cell (i := 0) (by omega)
      have r1 := hK.out.r.cell (i := 1) (by omega)
      have rf0 := hK.out.r.frozen 0
      have rf1 := hK.out.r.frozen 1
      have hbt : But (fun k => k = w.heap.size) wr ((wr.setCell ⟨w.heap.size, 0, none⟩ (.slice a1 x c1)).setCell ⟨w.heap.size, 1, none⟩ (.slice a2 x c2)) := ((But.refl (fun k => k = w.heap.size) wr).setCell (p := ⟨w.heap.size, 0, none⟩) (.inr rfl) _).setCell (p := ⟨w.heap.size, 1, none⟩) (.inr rfl) _
      have hf1 : Hid (NsAt ((wr.setCell ⟨w.heap.size, 0, none⟩ (.slice a1 x c1)).setCell ⟨w.heap.size, 1, none⟩ (.slice a2 x c2)) a1 ((List.range x).map fun x => (Pl.rLst s G x : Int))) := Lib.hid (ns_but n1 hbt (fun y e => by subst e; have := ownFar o3 (g := y.block) rfl; omega))
      have hf2 : Hid (NsAt ((wr.setCell ⟨w.heap.size, 0, none⟩ (.slice a1 x c1)).setCell ⟨w.heap.size, 1, none⟩ (.slice a2 x c2)) a2 ((List.range x).map fun x => Pl.rWay s G x)) := Lib.hid (ns_but n2 hbt (fun y e => by subst e; have := ownFar o4 (g := y.block) rfl; omega))
      have hy1 : Hid (∀ y, a1 = some y → w.heap.size ≤ y.block ∧ y.block < wr.heap.size) := Lib.hid (fun y e => by subst e; have h8 := ownFar o3 (g := y.block) rfl; have h9 := ownLt o3 (g := y.block) rfl; omega)
      have hy2 : Hid (∀ y, a2 = some y → w.heap.size ≤ y.block ∧ y.block < wr.heap.size) := Lib.hid (fun y e => by subst e; have h8 := ownFar o4 (g := y.block) rfl; have h9 := ownLt o4 (g := y.block) rfl; omega)
      have hVz : Hid (((wr.setCell ⟨w.heap.size, 0, none⟩ (.slice a1 x c1)).setCell ⟨w.heap.size, 1, none⟩ (.slice a2 x c2)).heap.size = wr.heap.size) := Lib.hid (by simp)
      have hbz : Below w.heap.size w ((wr.setCell ⟨w.heap.size, 0, none⟩ (.slice a1 x c1)).setCell ⟨w.heap.size, 1, none⟩ (.slice a2 x c2)) := (hK.out.b.setCell (p := ⟨w.heap.size, 0, none⟩) (Nat.le_refl _) _).setCell (p := ⟨w.heap.size, 1, none⟩) (Nat.le_refl _) _
      have y0 : ((wr.setCell ⟨w.heap.size, 0, none⟩ (.slice a1 x c1)).setCell ⟨w.heap.size, 1, none⟩ (.slice a2 x c2)).cell? ⟨w.heap.size, 0, none⟩ = some (.slice a1 x c1) := by simp [go_sem, r0]
      have y1 : ((wr.setCell ⟨w.heap.size, 0, none⟩ (.slice a1 x c1)).setCell ⟨w.heap.size, 1, none⟩ (.slice a2 x c2)).cell? ⟨w.heap.size, 1, none⟩ = some (.slice a2 x c2) := by simp [go_sem, r1]
      clear hK o3 o4 n1 n2 hne hbt HT hte htl
      go_wp2
      generalize (wr.setCell ⟨w.heap.size, 0, none⟩ (.slice a1 x c1)).setCell ⟨w.heap.size, 1, none⟩ (.slice a2 x c2) = V at *
      refine bodyPost_ret (v := .agg #[.slice a1 x c1, .slice a2 x c2]) (by simp [results, Tryd.results20, go_sem, y0, y1]) rfl ?_
      exact ⟨_, _, _, _, rfl, hf1, hf2, Lib.hid (fun y e => by rw [hVz.out]; exact hy1.out y e), Lib.hid (fun y e => by rw [hVz.out]; exact hy2.out y e), hbz⟩
end Go.Proofs.YtidcedilfhmllaaDoor
