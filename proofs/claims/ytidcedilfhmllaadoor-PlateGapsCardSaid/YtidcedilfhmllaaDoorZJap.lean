/- append of lists of numbers, as an equation; a row of one's own that grows beside a box. -/
import Derived.Test.YtidcedilfhmllaaDoorZ21
import Derived.Test.YtidcedilfhmllaaDoorZ13
import Derived.Maps.AppendAt
import Derived.Laws.OwnMore
set_option linter.unusedSimpArgs false
set_option linter.unusedVariables false
namespace Go.Proofs.YtidcedilfhmllaaDoor
open Go.RowKit

theorem cs_of_ns {w : World} {a : Option Addr} {l : List Int} (h : NsAt w a l) : CsAt w a (l.map fun z => Value.int .i64 z) := fun j u hu => by
  rw [List.getElem?_map] at hu
  cases hl : l[j]? with
  | none => rw [hl] at hu; cases hu
  | some z =>
    rw [hl] at hu
    obtain rfl := Option.some.inj hu
    have hj := (List.getElem?_eq_some_iff.1 hl).1
    obtain ⟨x, hx, hc⟩ := h j hj
    refine ⟨x, hx, ?_⟩
    rw [hc, List.getD, hl]
    rfl
theorem ns_of_ownsZ {w : World} {B : Nat} {v : Value} {l : List Int} {n : Nat} (_hn : l.length = n) (h : w.ownsRow B 3 1 v n (l.map fun z => Value.int .i64 z)) : ∃ a c, v = .slice a n c ∧ NsAt w a l ∧ (a = none → c = 0) := by
  obtain ⟨a, c, hv, hC, hz⟩ := cs_of_owns h
  refine ⟨a, c, hv, fun k hk => ?_, hz⟩
  obtain ⟨x, hx, hc⟩ := hC k (.int .i64 (l.getD k 0)) (by rw [List.getElem?_map, List.getElem?_eq_getElem hk, List.getD, List.getElem?_eq_getElem hk]; rfl)
  exact ⟨x, hx, hc⟩
theorem run_app_ints {w : World} {base : Nat} {v : Value} {pre : List Int} (hown : w.ownsRow base 3 1 v pre.length (pre.map fun z => Value.int .i64 z)) {b : Option Addr} {m cap : Nat} {l : List Int} (hm : l.length = m) (hL : NsAt w b l) (hb : b = none → cap = 0) (h9 : pre.length + m ≤ 100000) (hbase : base ≤ w.heap.size) :
    ∃ v' w', (Builtin.append_ #[22, 22] 22 #[v, .slice b m cap]).run Tryd.prog w = .ok v' w' ∧ w'.ownsRow base 3 1 v' (pre ++ l).length ((pre ++ l).map fun z => Value.int .i64 z) ∧ w.grownBy w' v.ownBlock ∧ (v'.ownBlock = v.ownBlock ∨ v'.ownBlock = some w.heap.size) := by
  obtain ⟨i0, hi, hz0, hz1, hz2⟩ := info_parts infoI64
  rw [List.length_append, List.map_append, hm]
  cases b with
  | none =>
    have h0 := hb rfl
    subst h0
    have hl : l = [] := by
      cases l with
      | nil => rfl
      | cons z r =>
        obtain ⟨x, hx, _⟩ := hL 0 (by simp)
        cases hx
    subst hl
    obtain rfl : m = 0 := by simpa using hm.symm
    refine ⟨v, w, run_append_owned_none w base 22 22 3 i0 1 Tryd.underlying22 hi v pre.length _ hown, ?_, grownBy_refl2 _ _, .inl rfl⟩
    rw [List.map_nil, List.append_nil]
    exact hown
  | some ad =>
    obtain ⟨v', w', h1, h2, h3, _, h5⟩ := run_append_own_at (P := Tryd.prog) w base 22 22 3 i0 (.int .i64 0) 1 8 Tryd.underlying22 hi hz0 hz1 hz2 rfl (by decide) v pre.length _ hown ad m cap (l.map fun z => Value.int .i64 z) (by simp [hm]) (fun j u hu => by
      obtain ⟨y, hy, hc⟩ := cs_of_ns hL j u hu
      obtain rfl := Option.some.inj hy
      exact hc) (fun u hu => by
      obtain ⟨z, _, rfl⟩ := List.mem_map.1 hu
      rfl) (by unfold maxLen; omega) (by omega) hbase
    exact ⟨v', w', h1, h2, h3, h5⟩

theorem wp_app {o : Oper} {a : Act} {w w' : World} {K : Act → World → Prop} {Q : Exit → Act → World → Prop} (s x : Operand) (t : TypeId)
    (ho : o.op = .call { callee := .builtin .append, args := #[s, x], argTypes := #[t, t] }) {v u v' : Value} (hs : a.eval s = v) (hx : a.eval x = u)
    (hr : (Builtin.append_ #[t, t] o.type #[v, u]).run Tryd.prog w = .ok v' w') (hK : K (a.put o.dst v') w') : Oper.wp Tryd.prog o a w K Q := by
  unfold Oper.wp execOp
  simp only [ho, resolve, invoke, builtin, Sem.run_bind, Sem.run_pure, Result.andThen_ok, List.map_toArray, List.map_cons, List.map_nil, hs, hx, hr]
  exact hK
theorem step_app {ops : Array Oper} {E : Prop} {o : Oper} {a : Act} {w w' : World} {K : Act → World → Prop} {Q : Exit → Act → World → Prop} (hgd : o.guard = none) (s x : Operand) (t : TypeId)
    (ho : o.op = .call { callee := .builtin .append, args := #[s, x], argTypes := #[t, t] }) {v u v' : Value} (hs : a.eval s = v) (hx : a.eval x = u)
    (hr : (Builtin.append_ #[t, t] o.type #[v, u]).run Tryd.prog w = .ok v' w') (hK : K (a.put o.dst v') w') : if Region.wanted o (yielded ops a.tmps) = true then Oper.wp Tryd.prog o a w K Q else E := by
  have hw : Region.wanted o (yielded ops a.tmps) = true := by simp [Region.wanted, hgd]
  rw [if_pos hw]
  exact wp_app s x t ho hs hx hr hK
theorem ownLt {W : World} {base n size : Nat} {e : TypeId} {v : Value} {xs : List Value} (h : W.ownsRow base e size v n xs) {g : Nat} (hg : v.ownBlock = some g) : g < W.heap.size := by
  rcases h.2 with ⟨hv, _⟩ | ⟨g', cap, cur, hv, hb, hh, _⟩
  · rw [hv] at hg; cases hg
  · rw [hv] at hg
    have e4 : g' = g := Option.some.inj hg
    rw [← e4]
    exact (Array.getElem?_eq_some_iff.1 hh).1
/-- a row of numbers that has been made since X, and a sign's box -/
structure A9 (X W : World) (c : Option (Value × List Int)) (g : Option Nat) : Prop where
  b : Below X.heap.size X W
  o : ∀ v l, c = some (v, l) → W.ownsRow X.heap.size 3 1 v l.length (l.map fun z => Value.int .i64 z)
  s : ∀ k, g = some k → X.heap.size ≤ k ∧ SgA W k 0 false ∧ ∀ v l, c = some (v, l) → v.ownBlock ≠ some k
theorem A9.new (X : World) : A9 X X none none := ⟨Below.refl _ _, fun _ _ h => by (cases h), fun _ h => by (cases h)⟩
theorem A9.lit {X W : World} {g : Option Nat} (h : A9 X W none g) : A9 X (W.alloc (Obj.cells #[] 3)) (some (.slice (some ⟨W.heap.size, 0, none⟩) 0 0, [])) g := by
  refine ⟨below_alloc h.b _, fun v l e => ?_, fun k e => ?_⟩
  · obtain ⟨rfl, rfl⟩ := Prod.mk.inj (Option.some.inj e)
    exact ownBase (owns_new2 W 3 1 0 #[] rfl (Nat.zero_le _)) h.b.size
  · obtain ⟨h1, h2, _⟩ := h.s k e
    refine ⟨h1, h2.below (below_alloc (Below.refl _ _) _), fun v l e2 => ?_⟩
    obtain ⟨rfl, rfl⟩ := Prod.mk.inj (Option.some.inj e2)
    have := h2.lt
    intro e3
    have e4 : W.heap.size = k := Option.some.inj e3
    omega
theorem A9.app {X W : World} {v : Value} {pre : List Int} {g : Option Nat} (h : A9 X W (some (v, pre)) g) {b : Option Addr} {m cap : Nat} {l : List Int} (hm : l.length = m) (hL : NsAt W b l) (hb : b = none → cap = 0) (h9 : pre.length + m ≤ 100000) :
    ∃ v' W', (Builtin.append_ #[22, 22] 22 #[v, .slice b m cap]).run Tryd.prog W = .ok v' W' ∧ A9 X W' (some (v', pre ++ l)) g ∧ Below X.heap.size X W' := by
  obtain ⟨v', W', h1, h2, h3, h4⟩ := run_app_ints (h.o _ _ rfl) hm hL hb h9 h.b.size
  have hbw : Below X.heap.size X W' := below_grown2 h.b (h.o _ _ rfl) h3
  refine ⟨v', W', h1, ⟨hbw, fun v2 l2 e => ?_, fun k e => ?_⟩, hbw⟩
  · obtain ⟨rfl, rfl⟩ := Prod.mk.inj (Option.some.inj e)
    exact h2
  · obtain ⟨k1, k2, k3⟩ := h.s k e
    have n1 := k3 _ _ rfl
    refine ⟨k1, (butGrown h3).row k2 n1, fun v2 l2 e2 => ?_⟩
    obtain ⟨rfl, rfl⟩ := Prod.mk.inj (Option.some.inj e2)
    intro e3
    rcases h4 with h4 | h4
    · exact n1 (by rw [← h4, e3])
    · rw [h4] at e3
      have := Option.some.inj e3
      have := k2.lt
      omega
theorem A9.box {X W : World} {c : Option (Value × List Int)} (h : A9 X W c none) : A9 X (W.alloc (Obj.cells #[.int .i64 0, .bool false] 70)) c (some W.heap.size) := by
  refine ⟨below_alloc h.b _, fun v l e => ownBelow (h.o v l e) (below_alloc (Below.refl _ _) _), fun k e => ?_⟩
  obtain rfl := Option.some.inj e
  refine ⟨h.b.size, sga_new W 0 false, fun v l e2 e3 => ?_⟩
  have := ownLt (h.o v l e2) e3
  omega
theorem A9.call {X W W' : World} {c : Option (Value × List Int)} {g : Option Nat} (h : A9 X W c g) (hb : Below W.heap.size W W') : A9 X W' c g :=
  ⟨h.b.trans (hb.mono h.b.size), fun v l e => ownBelow (h.o v l e) hb, fun k e => ⟨(h.s k e).1, (h.s k e).2.1.below hb, (h.s k e).2.2⟩⟩
end Go.Proofs.YtidcedilfhmllaaDoor
