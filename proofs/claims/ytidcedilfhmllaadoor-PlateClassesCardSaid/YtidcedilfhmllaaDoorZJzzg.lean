/- The specification's ways of layer 3: spots compared, a list of ways of one's own. -/
import Derived.Test.YtidcedilfhmllaaDoorZJzzs
import Derived.Test.YtidcedilfhmllaaDoorZJap
import Derived.Test.YtidcedilfhmllaaDoorZ03
import Derived.Test.YtidcedilfhmllaaDoorZ13
import Derived.BigQuiet
set_option linter.unusedSimpArgs false
set_option linter.unusedVariables false
namespace Go.Proofs.YtidcedilfhmllaaDoor
open Go.RowKit

theorem sp_held : Tryd.prog.stoodInHeld 100 = false := by kernel_rfl
theorem sp_guard : Tryd.prog.eqGuardType Tryd.prog.depth 100 = false := by kernel_rfl
theorem run_eql_sp (p p' t t' : Int) (m m' : Bool) (w : World) : (binOp .eql 100 (.agg #[.int .i64 p, .int .i64 t, .bool m]) (.agg #[.int .i64 p', .int .i64 t', .bool m'])).run Tryd.prog w = .ok (.bool (decide (p = p' ∧ t = t' ∧ m = m'))) w := by
  rw [run_eql_struct, run_equalIn_agg _ _ _ _ _ (by simp only [Program.fieldsOf, Tryd.underlying100]) sp_held]
  simp only [Program.fieldsOf, Tryd.underlying100]
  by_cases h1 : p = p'
  · by_cases h2 : t = t'
    · by_cases h3 : m = m'
      · simp [Op.eqFields, go_sem, h1, h2, h3]
      · simp [Op.eqFields, go_sem, h1, h2, h3]
    · simp [Op.eqFields, go_sem, h1, h2]
  · simp [Op.eqFields, go_sem, h1]
theorem run_neq_sp (p p' t t' : Int) (m m' : Bool) (w : World) : (binOp .neq 100 (.agg #[.int .i64 p, .int .i64 t, .bool m]) (.agg #[.int .i64 p', .int .i64 t', .bool m'])).run Tryd.prog w = .ok (.bool (!(decide (p = p' ∧ t = t' ∧ m = m')))) w := by
  have h := run_eql_sp p p' t t' m m' w
  rw [run_eql_struct] at h
  rw [run_neq_struct]
  revert h
  generalize (Op.equalIn 10000 100 (.agg #[.int .i64 p, .int .i64 t, .bool m]) (.agg #[.int .i64 p', .int .i64 t', .bool m'])).run Tryd.prog w = r
  intro h
  cases r with
  | ok b w' =>
    simp [Result.andThen] at h ⊢
    obtain ⟨h1, h2⟩ := h
    subst h1; subst h2
    simp
  | _ => simp [Result.andThen] at h

/-- the cells of ways: the spots, and the walks as slices -/
def wyC (Z : List (Pl.St × Value)) : List Value := Z.flatMap fun z => [.int .i64 z.1.p, .int .i64 (z.1.t : Int), .bool z.1.m, z.2]
theorem wyC_append (L L2 : List (Pl.St × Value)) : wyC (L ++ L2) = wyC L ++ wyC L2 := by unfold wyC; rw [List.flatMap_append]
theorem wyC_len (L : List (Pl.St × Value)) : (wyC L).length = L.length * 4 := by
  induction L with
  | nil => rfl
  | cons l r ih => unfold wyC at *; rw [List.flatMap_cons, List.length_append, ih]; simp; omega
theorem wyC_get : ∀ {L : List (Pl.St × Value)} {k : Nat} {z : Pl.St × Value}, L[k]? = some z → (wyC L)[k * 4]? = some (.int .i64 z.1.p) ∧ (wyC L)[k * 4 + 1]? = some (.int .i64 (z.1.t : Int)) ∧ (wyC L)[k * 4 + 2]? = some (.bool z.1.m) ∧ (wyC L)[k * 4 + 3]? = some z.2
  | [], _, _, h => by simp at h
  | l :: r, 0, y, h => by simp at h; subst h; exact ⟨rfl, rfl, rfl, rfl⟩
  | l :: r, k + 1, y, h => by
    have ih := wyC_get (L := r) (k := k) (z := y) (by simpa using h)
    have e : wyC (l :: r) = .int .i64 l.1.p :: .int .i64 (l.1.t : Int) :: .bool l.1.m :: l.2 :: wyC r := rfl
    have e0 : (k + 1) * 4 = k * 4 + 1 + 1 + 1 + 1 := by omega
    rw [e, e0]
    simp only [List.getElem?_cons_succ]
    exact ⟨ih.1, ih.2.1, ih.2.2.1, ih.2.2.2⟩
/-- ways in a row, wherever they lie -/
def WaysAt (w : World) (a : Option Addr) (R : List (Pl.St × List Int)) : Prop := ∀ (k : Nat) (e : Pl.St × List Int), R[k]? = some e → ∃ x b c, a = some x ∧ w.cell? (x.add (k * 4)) = some (.int .i64 e.1.p) ∧ w.cell? ⟨(x.add (k * 4)).block, (x.add (k * 4)).off + 1, none⟩ = some (.int .i64 (e.1.t : Int)) ∧ w.cell? ⟨(x.add (k * 4)).block, (x.add (k * 4)).off + 2, none⟩ = some (.bool e.1.m) ∧ w.cell? ⟨(x.add (k * 4)).block, (x.add (k * 4)).off + 3, none⟩ = some (.slice b e.2.length c) ∧ NsAt w b e.2 ∧ (b = none → c = 0)
theorem WaysAt.below {w W : World} {a : Option Addr} {R : List (Pl.St × List Int)} (h : WaysAt w a R) (hb : Below w.heap.size w W) : WaysAt W a R := fun k e hk => by
  obtain ⟨x, b, c, rfl, h1, h2, h3, h4, h5, h6⟩ := h k e hk
  exact ⟨x, b, c, rfl, kept1 h1 hb, kept1 h2 hb, kept1 h3 hb, kept1 h4 hb, h5.below hb, h6⟩

/-- the list of ways as it grows: a row of one's own, the walks in rows of their own -/
structure WyL (W0 W : World) (v : Value) (acc : List (Pl.St × List Int)) (Z : List (Pl.St × Value)) : Prop where
  o : W.ownsRow W0.heap.size 102 4 v acc.length (wyC Z)
  l : Z.length = acc.length
  a : ∀ (i : Nat) (e : Pl.St × List Int), acc[i]? = some e → ∃ b c, Z[i]? = some (e.1, .slice b e.2.length c) ∧ NsAt W b e.2 ∧ (b = none → c = 0) ∧ ∀ y, b = some y → y.block < W.heap.size ∧ v.ownBlock ≠ some y.block
  b : Below W0.heap.size W0 W
theorem WyL.below {W0 W W' : World} {v : Value} {acc : List (Pl.St × List Int)} {Z : List (Pl.St × Value)} (h : WyL W0 W v acc Z) (hb : Below W.heap.size W W') : WyL W0 W' v acc Z :=
  ⟨ownBelow h.o hb, h.l, fun i e hi => by
    obtain ⟨b, c, h1, h2, h3, h4⟩ := h.a i e hi
    exact ⟨b, c, h1, h2.below hb, h3, fun y e => ⟨Nat.lt_of_lt_of_le (h4 y e).1 hb.size, (h4 y e).2⟩⟩, h.b.trans (hb.mono h.b.size)⟩
theorem WyL.at_ {W0 W : World} {v : Value} {acc : List (Pl.St × List Int)} {Z : List (Pl.St × Value)} (h : WyL W0 W v acc Z) : ∃ a c, v = .slice a acc.length c ∧ WaysAt W a acc := by
  obtain ⟨_, h2⟩ := h.o
  rcases h2 with ⟨hv, h0⟩ | ⟨g, cap, cur, hv, hb, hg, hle, hcm, hs, ht⟩
  · refine ⟨none, 0, by rw [hv, h0], fun k e hk => ?_⟩
    have := (List.getElem?_eq_some_iff.1 hk).1
    omega
  · refine ⟨_, cap, hv, fun k e hk => ?_⟩
    obtain ⟨b, c, g1, g2, g3, _⟩ := h.a k e hk
    have hc : ∀ j u, (wyC Z)[j]? = some u → W.cell? ⟨g, j, none⟩ = some u := by
      intro j u hu
      have hj : j < acc.length * 4 := by rw [← h.l, ← wyC_len]; exact (List.getElem?_eq_some_iff.1 hu).1
      rw [← ht, List.getElem?_take_of_lt hj, Array.getElem?_toList] at hu
      simp [World.cell?, hg, hu]
    obtain ⟨c0, c1, c2, c3⟩ := wyC_get g1
    have e0 : (⟨g, 0, none⟩ : Addr).add (k * 4) = ⟨g, k * 4, none⟩ := by unfold Addr.add; split <;> simp_all
    refine ⟨_, b, c, rfl, ?_⟩
    rw [e0]
    exact ⟨hc _ _ c0, hc _ _ c1, hc _ _ c2, hc _ _ c3, g2, g3⟩
theorem WyL.more {W0 W W4 : World} {v v' : Value} {acc : List (Pl.St × List Int)} {Z : List (Pl.St × Value)} {o : Obj} (h : WyL W0 W v acc Z) {y : Pl.St} {l : List Int} {b : Option Addr} {n c : Nat} (hn : l.length = n) (hN : NsAt W b l) (hz : b = none → c = 0) (hbf : ∀ y, b = some y → y.block < W.heap.size ∧ v.ownBlock ≠ some y.block)
    (hown : W4.ownsRow W0.heap.size 102 4 v' (acc.length + 1) (wyC Z ++ [.int .i64 y.p, .int .i64 (y.t : Int), .bool y.m, .slice b n c])) (hgrow : (W.alloc o).grownBy W4 v.ownBlock) (hat : v'.ownBlock = v.ownBlock ∨ v'.ownBlock = some (W.heap.size + 1)) : WyL W0 W4 v' (acc ++ [(y, l)]) (Z ++ [(y, .slice b n c)]) := by
  have hA := below_alloc (Below.refl W.heap.size W) o
  have hzz : W.heap.size ≤ W4.heap.size := Nat.le_trans hA.size hgrow.size
  have kp : ∀ {b : Option Addr} {l : List Int}, NsAt W b l → (∀ y, b = some y → y.block < W.heap.size ∧ v.ownBlock ≠ some y.block) → NsAt W4 b l ∧ ∀ y, b = some y → y.block < W4.heap.size ∧ v'.ownBlock ≠ some y.block := fun hN hbf => by
    refine ⟨fun j hj => ?_, fun y e => ⟨Nat.lt_of_lt_of_le (hbf y e).1 hzz, fun e2 => ?_⟩⟩
    · obtain ⟨y, rfl, hc⟩ := hN j hj
      refine ⟨y, rfl, (butGrown hgrow).kept (kept1 hc hA) (fun e => (hbf y rfl).2 ?_)⟩
      have hyb : (y.add j).block = y.block := by unfold Addr.add; split <;> rfl
      rw [e, hyb]
    · rcases hat with hh | hh
      · exact (hbf y e).2 (by rw [← hh, e2])
      · rw [hh] at e2
        have := Option.some.inj e2
        have := (hbf y e).1
        omega
  subst hn
  refine ⟨by rw [List.length_append, wyC_append]; exact hown, by rw [List.length_append, List.length_append, h.l]; rfl, fun i e hi => ?_, ?_⟩
  · by_cases hlt : i < acc.length
    · rw [List.getElem?_append_left hlt] at hi
      obtain ⟨b', c', h1, h2, h3, h4⟩ := h.a i e hi
      obtain ⟨k1, k2⟩ := kp h2 h4
      exact ⟨b', c', by rw [List.getElem?_append_left (by rw [h.l]; exact hlt)]; exact h1, k1, h3, k2⟩
    · rw [List.getElem?_append_right (by omega)] at hi
      have hi0 : i = acc.length := by
        have := (List.getElem?_eq_some_iff.1 hi).1
        simp at this
        omega
      subst hi0
      rw [Nat.sub_self] at hi
      simp at hi
      subst hi
      obtain ⟨k1, k2⟩ := kp hN hbf
      refine ⟨b, c, ?_, k1, hz, k2⟩
      rw [List.getElem?_append_right (by rw [h.l]; exact Nat.le_refl _), h.l, Nat.sub_self]
      rfl
  · exact (below_alloc h.b o).grown hgrow (by have := h.b.size; simp; omega) (fun g hg => ownFar h.o hg)

/-- a row of numbers that has been made since X, and a row of one number beside it -/
structure A4 (X W : World) (st : Int) (c : Option (Value × List Int)) (g : Option Nat) : Prop where
  b : Below X.heap.size X W
  o : ∀ v l, c = some (v, l) → W.ownsRow X.heap.size 3 1 v l.length (l.map fun z => Value.int .i64 z)
  s : ∀ k, g = some k → X.heap.size ≤ k ∧ W.cell? ⟨k, 0, none⟩ = some (.int .i64 st) ∧ ∀ v l, c = some (v, l) → v.ownBlock ≠ some k
theorem A4.new (X : World) (st : Int) : A4 X X st none none := ⟨Below.refl _ _, fun _ _ h => by (cases h), fun _ h => by (cases h)⟩
theorem A4.lit {X W : World} {st : Int} {g : Option Nat} (h : A4 X W st none g) : A4 X (W.alloc (Obj.cells #[] 3)) st (some (.slice (some ⟨W.heap.size, 0, none⟩) 0 0, [])) g := by
  refine ⟨below_alloc h.b _, fun v l e => ?_, fun k e => ?_⟩
  · obtain ⟨rfl, rfl⟩ := Prod.mk.inj (Option.some.inj e)
    exact ownBase (owns_new2 W 3 1 0 #[] rfl (Nat.zero_le _)) h.b.size
  · obtain ⟨h1, h2, _⟩ := h.s k e
    refine ⟨h1, cell_alloc h2 _, fun v l e2 => ?_⟩
    obtain ⟨rfl, rfl⟩ := Prod.mk.inj (Option.some.inj e2)
    have := block_lt_of_cell h2
    simp only at this
    intro e3
    have e4 : W.heap.size = k := Option.some.inj e3
    omega
theorem A4.app {X W : World} {st : Int} {v : Value} {pre : List Int} {g : Option Nat} (h : A4 X W st (some (v, pre)) g) {b : Option Addr} {m cap : Nat} {l : List Int} (hm : l.length = m) (hL : NsAt W b l) (hb : b = none → cap = 0) (h9 : pre.length + m ≤ 100000) :
    ∃ v' W', (Builtin.append_ #[22, 22] 22 #[v, .slice b m cap]).run Tryd.prog W = .ok v' W' ∧ A4 X W' st (some (v', pre ++ l)) g ∧ Below X.heap.size X W' := by
  obtain ⟨v', W', h1, h2, h3, h4⟩ := run_app_ints (h.o _ _ rfl) hm hL hb h9 h.b.size
  have hbw : Below X.heap.size X W' := below_grown2 h.b (h.o _ _ rfl) h3
  refine ⟨v', W', h1, ⟨hbw, fun v2 l2 e => ?_, fun k e => ?_⟩, hbw⟩
  · obtain ⟨rfl, rfl⟩ := Prod.mk.inj (Option.some.inj e)
    exact h2
  · obtain ⟨k1, k2, k3⟩ := h.s k e
    have n1 := k3 _ _ rfl
    refine ⟨k1, (butGrown h3).kept k2 n1, fun v2 l2 e2 => ?_⟩
    obtain ⟨rfl, rfl⟩ := Prod.mk.inj (Option.some.inj e2)
    intro e3
    rcases h4 with h4 | h4
    · exact n1 (by rw [← h4, e3])
    · rw [h4] at e3
      have := Option.some.inj e3
      have := block_lt_of_cell k2
      simp only at this
      omega
theorem A4.box {X W : World} {st : Int} {c : Option (Value × List Int)} (h : A4 X W st c none) : A4 X (W.alloc (Obj.cells #[.int .i64 st] 3)) st c (some W.heap.size) := by
  refine ⟨below_alloc h.b _, fun v l e => ownBelow (h.o v l e) (below_alloc (Below.refl _ _) _), fun k e => ?_⟩
  obtain rfl := Option.some.inj e
  refine ⟨h.b.size, by simp [go_sem], fun v l e2 e3 => ?_⟩
  have := ownLt (h.o v l e2) e3
  omega
end Go.Proofs.YtidcedilfhmllaaDoor
