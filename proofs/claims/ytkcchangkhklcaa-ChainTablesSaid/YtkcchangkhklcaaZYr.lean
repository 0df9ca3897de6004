/- What the laws share: two lists of one's own, being gathered. -/
import Derived.Test.YtkcchangkhklcaaZYb
import Derived.Test.YtkcchangkhklcaaZ06
import Derived.StillTailTactics
set_option linter.unusedSimpArgs false
set_option linter.unusedVariables false
namespace Go.Proofs.Ytkcchangkhklcaa
open Go.RowKit

/-- two lists of one's own -/
structure LP (w W : World) (cv dv : Value) (us ds : List Int) : Prop where
  o1 : W.ownsRow w.heap.size 3 1 cv us.length (us.map iV)
  o2 : W.ownsRow w.heap.size 3 1 dv ds.length (ds.map iV)
  ne : ∀ g, cv.ownBlock = some g → dv.ownBlock = some g → False
  b : Below w.heap.size w W
theorem owns_lt {W : World} {base n size : Nat} {e : TypeId} {v : Value} {xs : List Value} (h : W.ownsRow base e size v n xs) {g : Nat} (hg : v.ownBlock = some g) : g < W.heap.size := by
  rcases h.2 with ⟨rfl, _⟩ | ⟨g', cap, cur, rfl, _, hgb, _⟩
  · cases hg
  · obtain rfl : g' = g := by simpa [Value.ownBlock] using hg
    exact (Array.getElem?_eq_some_iff.1 hgb).1
theorem LP.swap {w W : World} {cv dv : Value} {us ds : List Int} (h : LP w W cv dv us ds) : LP w W dv cv ds us := ⟨h.o2, h.o1, fun g h1 h2 => h.ne g h2 h1, h.b⟩
theorem LP.push {w W W' : World} {cv dv cv' : Value} {us ds : List Int} {z : Int} (o : Obj) (h : LP w W cv dv us ds) (hown : W'.ownsRow w.heap.size 3 1 cv' (us.length + 1) (us.map iV ++ [.int .i64 z])) (hg0 : (W.alloc o).drew.grownBy W' cv.ownBlock) {g : Nat} (hv : cv'.ownBlock = some g) (hat : cv.ownBlock = some g ∨ g = W.heap.size + 1) : LP w W' cv' dv (us ++ [z]) ds := by
  have hg : (W.alloc o).grownBy W' cv.ownBlock := ⟨hg0.os, hg0.tape, hg0.output, hg0.size, hg0.block⟩
  refine ⟨?_, ?_, ?_, below_grown (h.b.alloc h.b.size o) (h.o1.alloc o) hg⟩
  · rw [List.length_append, List.map_append]; exact hown
  · refine (h.o2.alloc o).kept hg ?_
    rcases h.o2.2 with ⟨rfl, _⟩ | ⟨g', cap, cur, rfl, _, _, _⟩
    · exact .inl rfl
    · refine .inr fun e' => ?_
      exact h.ne g' (by simpa [Value.ownBlock] using e'.symm) rfl
  · intro k h1 h2
    rw [hv] at h1
    obtain rfl := Option.some.inj h1
    rcases hat with e | e
    · exact h.ne _ e h2
    · have := owns_lt h.o2 h2; omega
theorem LP.drew {w W : World} {cv dv : Value} {us ds : List Int} (h : LP w W cv dv us ds) : LP w W.drew cv dv us ds := ⟨h.o1.drew, h.o2.drew, h.ne, h.b.drew⟩

theorem ints_of_ownZ {W : World} {B : Nat} {v : Value} {l : List Int} (h : W.ownsRow B 3 1 v l.length (l.map iV)) : ∃ p cp, v = .slice p l.length cp ∧ IntsAt W p l := by
  rcases h.2 with ⟨hv, h0⟩ | ⟨g, cap, cur, hv, _, hgb, _, _, _, ht⟩
  · exact ⟨none, 0, by rw [hv, h0], fun k hk => by omega⟩
  · refine ⟨_, cap, hv, fun k hk => ⟨_, rfl, ?_⟩⟩
    have e : (⟨g, 0, none⟩ : Addr).add k = ⟨g, k, none⟩ := by unfold Addr.add; split <;> simp_all
    have hu : (l.map iV)[k]? = some (.int .i64 (l.getD k 0)) := by
      rw [List.getElem?_map, List.getD, List.getElem?_eq_getElem hk]; rfl
    rw [← ht, List.getElem?_take_of_lt (by omega), Array.getElem?_toList] at hu
    rw [e]
    simp [World.cell?, hgb, hu]
theorem lat_keep {w W W' : World} {cv : Value} {p q : Addr} {x y : Value} (hS : W.cell? p = some x ∧ W.cell? q = some y) (hg : W.grownBy W' cv.ownBlock) (hf : ∀ g, cv.ownBlock = some g → w.heap.size ≤ g) (hp : p.block < w.heap.size) (hq : q.block < w.heap.size) : W'.cell? p = some x ∧ W'.cell? q = some y :=
  ⟨(World.cell?_of_block (hg.block _ (block_lt_of_cell hS.1) (fun e => by have := hf _ e.symm; omega))).trans hS.1, (World.cell?_of_block (hg.block _ (block_lt_of_cell hS.2) (fun e => by have := hf _ e.symm; omega))).trans hS.2⟩

end Go.Proofs.Ytkcchangkhklcaa
