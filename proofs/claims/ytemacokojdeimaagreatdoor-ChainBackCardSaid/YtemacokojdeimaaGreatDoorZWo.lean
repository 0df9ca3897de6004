/- A system without some links, plain; a system whose links are being gathered. -/
import Derived.Test.YtemacokojdeimaaGreatDoorZYp
import Derived.Test.YtemacokojdeimaaGreatDoorZ07
set_option linter.unusedSimpArgs false
set_option linter.unusedVariables false
namespace Ch
/-- the first j links but those of 'which' -/
def wo (L : List Lk) (which : List Int) (j : Nat) : List Lk := ((List.range j).filter fun i : Nat => !decide ((i : Int) ∈ which)).map fun i => L.getD i noLk
theorem wo_hit {L : List Lk} {which : List Int} {j : Nat} (h : decide ((j : Int) ∈ which) = false) : wo L which (j + 1) = wo L which j ++ [L.getD j noLk] := by
  unfold wo
  rw [List.range_succ, List.filter_append, List.filter_cons, h, List.map_append]
  rfl
theorem wo_miss {L : List Lk} {which : List Int} {j : Nat} (h : decide ((j : Int) ∈ which) = true) : wo L which (j + 1) = wo L which j := by
  unfold wo
  rw [List.range_succ, List.filter_append, List.filter_cons, h]
  simp
theorem wo_len (L : List Lk) (which : List Int) (j : Nat) : (wo L which j).length ≤ j := by
  unfold wo
  have := List.length_filter_le (fun i : Nat => !decide ((i : Int) ∈ which)) (List.range j)
  simpa using this
end Ch
namespace Go.Proofs.YtemacokojdeimaaGreatDoor
open Go.RowKit

/-- a system whose links are being gathered: its box, the links of its own; all else is as it was -/
structure WO (Y W : World) (ob : Nat) (n : Int) (v : Value) (pre : List Ch.Lk) : Prop where
  r : W.rowIs ob 24 2 (fun i => if i = 0 then .int .i64 n else v)
  o : W.ownsRow Y.heap.size 54 3 v pre.length (lkCells pre)
  b : But (fun k => k = ob) Y W
  lt : ob < Y.heap.size
theorem WO.drewN {Y W W' : World} {ob : Nat} {n : Int} {v : Value} {pre : List Ch.Lk} (h : WO Y W ob n v pre) (hb : Below W.heap.size W W') : WO Y W' ob n v pre :=
  ⟨Below.row hb h.r, owns_but (T := fun _ => False) h.o ((But.of_below hb).mono (fun _ _ h => h)) (fun _ _ h => h), h.b.trans (.of_below hb), h.lt⟩
/-- one link more: behind the append, and the store -/
theorem WO.push {Y W W1 W2 : World} {ob : Nat} {n : Int} {v : Value} {pre : List Ch.Lk} {l : Ch.Lk} {p : Option Addr} {cp q : Nat} (h : WO Y W ob n v pre) (h1 : Below W.heap.size W W1) (hg : W1.grownBy W2 v.ownBlock) (ho : W2.ownsRow Y.heap.size 54 3 (.slice p q cp) (pre.length + 1) (lkCells (pre ++ [l]))) :
    WO Y (W2.setCell ⟨ob, 1, none⟩ (.slice p q cp)) ob n (.slice p q cp) (pre ++ [l]) ∧ W2.rowIs ob 24 2 (fun i => if i = 0 then .int .i64 n else v) := by
  have ho1 : W1.ownsRow Y.heap.size 54 3 v pre.length (lkCells pre) := owns_but (T := fun _ => False) h.o ((But.of_below h1).mono (fun _ _ h => h)) (fun _ _ h => h)
  have hb2 : But (fun k => v.ownBlock = some k) W1 W2 := ⟨hg.os, hg.tape, hg.output, hg.size, fun k hk hn => hg.block k hk (fun e => hn e.symm)⟩
  have hlt := h.lt
  have hnob : ¬ v.ownBlock = some ob := fun e => by have := owns_far h.o e; omega
  have r2 : W2.rowIs ob 24 2 (fun i => if i = 0 then .int .i64 n else v) := hb2.row (Below.row h1 h.r) hnob
  refine ⟨⟨(r2.set 1 _).congr (fun i hi => ?_), ?_, ?_, h.lt⟩, r2⟩
  · by_cases e : i = 1
    · subst e; simp
    · have : i = 0 := by omega
      subst this; simp
  · rw [List.length_append]
    refine owns_but ho ((But.refl (fun g => g = ob) W2).setCell (p := ⟨ob, 1, none⟩) (.inr rfl) _) (fun g hg2 e => ?_)
    have := owns_far ho hg2
    omega
  · have hY : But (fun k => k = ob) Y W2 := by
      have hb1 := h.b.trans (.of_below h1)
      refine ⟨hb2.os.trans hb1.os, hb2.tape.trans hb1.tape, hb2.output.trans hb1.output, Nat.le_trans hb1.size hb2.size, fun k hk hn => (hb2.block k (Nat.lt_of_lt_of_le hk hb1.size) (fun e => ?_)).trans (hb1.block k hk hn)⟩
      have := owns_far h.o e
      omega
    exact hY.setCell (p := ⟨ob, 1, none⟩) (.inr rfl) _
theorem cell_far {W W1 : World} {v : Value} {B : Nat} {p : Addr} {x : Value} (hg : W.grownBy W1 v.ownBlock) (hf : ∀ g, v.ownBlock = some g → B ≤ g) (hp : p.block < B) (h : W.cell? p = some x) : W1.cell? p = some x :=
  (World.cell?_of_block (hg.block _ (block_lt_of_cell h) (fun e => by have := hf _ e.symm; omega))).trans h
theorem lks_one (W : World) (f t mo : Int) : LksAt (W.alloc (Obj.cells #[.int .i64 f, .int .i64 t, .int .i64 mo] 54)) (some ⟨W.heap.size, 0, none⟩) [⟨f, t, mo⟩] := lks_block (fun j u hu => by
  have h := World.alloc_heap_new W (Obj.cells #[.int .i64 f, .int .i64 t, .int .i64 mo] 54)
  simp only [World.cell?, h]
  rw [← hu, ← Array.getElem?_toList]
  rfl)

end Go.Proofs.YtemacokojdeimaaGreatDoor
