/- What the claims of layer 2 share, part 3: several texts one behind the other. -/
import Derived.Sort.QuietIn
import Derived.StillTail
import Derived.StillTailTactics
import Derived.Deep.RegionHeld3
import Derived.Sort.LoopGhostIn
import Derived.Shelf.Abstract
import Derived.Shelf.SlIterI.Sorted
import Derived.Shelf.SlGeneric
import Derived.Shelf.Spec.SlicesGrow
import Derived.Shelf.Small.Bits
import Derived.Shelf.Small.Wraps
import Derived.Shelf.Strconv.Itoa0
import Derived.Shelf.Sort.Plain
import Derived.Shelf.Bits.Mul64
import Derived.Ground.Names2Prog
import Derived.Shelf.Slices.SearchI
import Derived.Shelf.Slices.In.SortNone
import Derived.Test.YtkcchangkhklcaaProg
import Derived.Laws.CopyOwn
import Derived.Deep.RegionLaw
import Derived.Test.YtkcchangkhklcaaZ02
set_option linter.unusedSimpArgs false
set_option linter.unusedVariables false
/- A region that draws its order and only reads, inside a round. -/
namespace Go.Proofs.Ytkcchangkhklcaa
open Go.RowKit

variable {F : Fence} {n : Nat} {P : Program} {Q : Exit → Act → World → Prop} {a : Act} {w : World} {l : Nat}

theorem oper_round {o : Oper} {K : Act → World → Prop} (hro : F.round = none) (hd : ∀ c, o.op ≠ .defer c) (h : o.wpIn F n P a w K Q) : o.wpIn (F.inRound l) n P a w K Q := by
  unfold Oper.wpIn at h ⊢
  refine ⟨h.1, ?_⟩
  have e : o.semAt (F.inRound l).round a.eval = o.semAt F.round a.eval := by
    rw [Fence.inRound_round, hro, Oper.semAt_some l _ _ hd]; rfl
  rw [e]
  have h2 := h.2
  generalize (o.semAt F.round a.eval).run P w = r at h2 ⊢
  cases r with
  | ok x w' => cases x <;> exact h2
  | halt x w' => cases x <;> exact h2

theorem op_round {ops : Array Oper} {i : Nat} {K K' : Act → World → Prop} (hro : F.round = none) (hd : ∀ (i : Nat) (o : Oper), ops[i]? = some o → ∀ c, o.op ≠ .defer c) (hK : ∀ a w, K a w → K' a w) (h : wpOpIn F n P ops Q i K a w) : wpOpIn (F.inRound l) n P ops Q i K' a w := by
  have h := wpOpIn_mono hK h
  unfold wpOpIn at h ⊢
  cases ho : ops[i]? with
  | none => simp only [ho] at h ⊢; exact h
  | some o =>
    simp only [ho] at h ⊢
    split
    · rename_i hw
      simp only [hw, if_true] at h
      exact oper_round hro (hd i o ho) h
    · rename_i hw
      simp only [hw] at h
      exact h

theorem any_round {md : Region.Mode} {ops : Array Oper} (hro : F.round = none) (hd : ∀ (i : Nat) (o : Oper), ops[i]? = some o → ∀ c, o.op ≠ .defer c) : ∀ (fuel : Nat) (listed : Array Bool) (a : Act) (w : World), wpAnyIn F n P md ops Q fuel listed a w → wpAnyIn (F.inRound l) n P md ops Q fuel listed a w
  | 0, _, _, _, h => h
  | fuel + 1, _, _, _, h => ⟨h.1, fun i hi => op_round hro hd (fun a w h => any_round hro hd fuel _ a w h) (h.2 i hi)⟩

/-- no operation of a list is a 'defer' -/
def noDefer (ops : List Oper) : Bool := ops.all fun o => match o.op with | .defer _ => false | _ => true
theorem noDefer_spec {ops : List Oper} (h : noDefer ops = true) : ∀ (i : Nat) (o : Oper), ops.toArray[i]? = some o → ∀ c, o.op ≠ .defer c := by
  intro i o ho c e
  unfold noDefer at h
  rw [List.all_eq_true] at h
  have hm : o ∈ ops := by
    have : ops[i]? = some o := by simpa using ho
    exact List.mem_of_getElem? this
  have := h o hm
  rw [e] at this
  cases this

/-- a quiet region inside a round: one walk serves every order -/
theorem quiet_round {id : Nat} {ops : List Oper} (hro : F.round = none) (hd : noDefer ops = true) (hm : P.follows .mixedOrders = true) (hB : Region.lexB .any ops.toArray = true)
    (h : wpQuietIn F n P ops.toArray (fun w' => ∃ k, w' = w.drewN k) (fun a' => ∀ w', (∃ k, w' = w.drewN k) → Q .normal a' w') ops a) : (Code.region id ops.toArray true).wpIn (F.inRound l) n P Q a w := by
  simp only [Region.lexB, Bool.and_eq_true] at hB
  refine wpIn_region_any hm (any_round hro (noDefer_spec hd) _ _ _ _ ?_)
  refine wpAnyIn_of_quiet (C := fun w' => ∃ k, w' = w.drewN k) (Q := fun a' => ∀ w', (∃ k, w' = w.drewN k) → Q .normal a' w') hro (fun _ w' hw' h => h w' hw') _ _ _ _ ⟨1, rfl⟩ ?_
  have := wpAnyQIn_lex (F := F) (n := n) (C := fun w' => ∃ k, w' = w.drewN k) (md := .any) hB.1 ops 0 (Array.replicate ops.toArray.size false) a (by simp) (by simpa using hB.2) h
  simpa using this
end Go.Proofs.Ytkcchangkhklcaa

/- A region that draws its order, reads first and stores last, inside a round. -/
namespace Go.Proofs.Ytkcchangkhklcaa
open Go.RowKit

variable {n : Nat} {P : Program} {Q : Exit → Act → World → Prop} {a : Act} {w : World}

theorem rows_wide {row : String} {args : Array Value} {R : Value → World → Prop} (h : Rows P row args w R) : RowsIn Fence.wide n P row args w R := fun c cs _ =>
  let ⟨v, w', r, s⟩ := h c cs
  ⟨v, w', r, stepsIn_wide.2 s⟩

/-- an operation that is walked at no fence, walked at the wide one -/
theorem oper_wide {o : Oper} {K : Act → World → Prop} (h : o.wp P a w K Q) : o.wpIn Fence.wide n P a w K Q := by
  refine ⟨fun _ _ => trivial, ?_⟩
  unfold Oper.wp at h
  show o.uponIn Fence.wide n P a K Q ((execOp a.eval o).run P w)
  generalize (execOp a.eval o).run P w = r at h ⊢
  cases r with
  | ok x w' =>
    cases x with
    | enter f args => exact ⟨fun h => by simp [Fence.wide] at h, callsIn_wide.2 h⟩
    | row row args => exact ⟨fun h => by simp [Fence.wide] at h, rows_wide h⟩
    | _ => first | exact h | exact h.elim
  | halt x w' => cases x <;> first | exact h | exact h.elim

theorem any_wide {md : Region.Mode} {ops : Array Oper} (hQ : ¬ LetsOut Q) : ∀ (fuel : Nat) (listed : Array Bool) (a : Act) (w : World), wpAny P md ops Q fuel listed a w → wpAnyIn Fence.wide n P md ops Q fuel listed a w
  | 0, _, _, _, h => h
  | fuel + 1, listed, a, w, h => ⟨h.1, fun i hi => by
    have h2 := h.2 i hi
    unfold wpOp at h2
    unfold wpOpIn
    cases ho : ops[i]? with
    | none => simp only [ho] at h2 ⊢; exact any_wide hQ fuel _ _ _ h2
    | some o =>
      simp only [ho] at h2 ⊢
      split
      · rename_i hw
        simp only [hw, if_true] at h2
        exact Oper.wpIn_mono (fun a w h => any_wide hQ fuel _ a w h) (oper_wide (h2.resolve_right (fun h => hQ h.2)))
      · rename_i hw
        simp only [hw] at h2
        exact ⟨fun _ _ => trivial, any_wide hQ fuel _ _ _ h2⟩⟩

/-- reads first, then stores: one walk serves every order, inside a round -/
theorem tail_round {id r k : Nat} {ops : List Oper} (m : Nat) (hQ : ¬ LetsOut Q) (hd : noDefer ops = true) (hm : P.follows .mixedOrders = true) (hB : Region.lexTailB .any ops.toArray m = true)
    (h : wpStill P ops.toArray { w with drawn := w.drawn + 1 } (fun a' => wpList P ops.toArray Q (ops.drop m) a' { w with drawn := w.drawn + 1 }) (ops.take m) a) : (Code.region id ops.toArray true).wpIn (Fence.wide.inRound r) k P Q a w := by
  simp only [Region.lexTailB, Bool.and_eq_true, decide_eq_true_eq] at hB
  obtain ⟨⟨⟨⟨h1, h2⟩, h3⟩, h4⟩, h5⟩ := hB
  have h6 : m < ops.length := by simpa using h2
  have h7 : (ops.take m).length = m := by simp; omega
  have h8 : (ops.drop m).length = ops.toArray.size - m := by simp
  have H := wpAnyL_lex (md := .any) (g := ops.toArray.size - m) h1 h3 h4 h2 (ops.take m) 0 (Array.replicate ops.toArray.size false) a (fun j hj => by
    have : j < m := by rw [h7] at hj; exact hj
    simp [this]) (by simpa using h7) ⟨by simp, fun j oj _ hl => (by rw [getD_replicate_false] at hl; cases hl), fun t _ ht => getD_in (by simpa using ht) (getD_replicate_false _ _)⟩ (by rw [h7]; exact h5) h
  have K := wpAny_of_head (Q' := Q) (g := ops.toArray.size - m) (fun listed a' hL => by
    have e := wpAny_of_seq (md := .any) (Q' := Q) (ops.drop m) m listed a' { w with drawn := w.drawn + 1 } (fun j => by simp [List.getElem?_drop]) (by rw [h8]; exact hL.1) hL.2
    rwa [h8] at e) _ _ _ H
  rw [h7, show m + (ops.toArray.size - m) = ops.toArray.size by omega] at K
  exact wpIn_region_any hm (any_round rfl (noDefer_spec hd) _ _ _ _ (any_wide hQ _ _ _ _ K))
/-- any order, a condition on the world kept behind each operation, inside a round -/
theorem held_round {id r k : Nat} {ops : List Oper} (S : World → Prop) (hQ : ¬ LetsOut Q) (hd : noDefer ops = true) (hm : P.follows .mixedOrders = true) (hS : S w.drew)
    (h : S w.drew → wpAnyH P .any ops.toArray Q S ops.toArray.size (Array.replicate ops.toArray.size false) a w.drew) : (Code.region id ops.toArray true).wpIn (Fence.wide.inRound r) k P Q a w :=
  wpIn_region_any hm (any_round rfl (noDefer_spec hd) _ _ _ _ (any_wide hQ _ _ _ _ (wpAny_of_held _ _ _ _ (h hS))))
end Go.Proofs.Ytkcchangkhklcaa

/- settle: region 18, inside a round. -/
namespace Go.Proofs.Ytkcchangkhklcaa
open Go.RowKit

theorem others_but {T : Nat → Prop} {W W' : World} (hb : But T W W') (hT : ∀ (k : Nat) (o : Obj), T k → W.heap[k]? = some o → o.isCells = true) : KeepsOthers W W' :=
  ⟨hb.size, fun k o hk ho => (hb.block k (Array.getElem?_eq_some_iff.1 hk).1 (fun ht => by have := hT k o ht hk; rw [this] at ho; cases ho)).trans hk⟩

theorem row_cells {W : World} {b : Nat} {t : TypeId} {n : Nat} {f : Nat → Value} (h : W.rowIs b t n f) {o : Obj} (hk : W.heap[b]? = some o) : o.isCells = true := by
  obtain ⟨_, h1, _⟩ := h
  rw [hk] at h1
  obtain rfl := Option.some.inj h1
  rfl

theorem SS.put_others {w W W' : World} {B sb N n cap gb : Nat} {x : Ch.St} {go : Option Nat} {rs : List Nat} (h : SS w B sb N n cap gb x go rs W) (hb : But (fun k => k = B + 3 ∨ go = some k) W W') : KeepsOthers W W' := by
  refine others_but hb ?_
  rintro k o (rfl | e) hk
  · obtain ⟨_, _, r, _⟩ := h.q
    exact row_cells r hk
  · obtain ⟨_, _, r⟩ := h.go_cells e
    exact row_cells r hk

theorem SS.fin0 {w W : World} {sb N n cap gb : Nat} {x : Ch.St} {go : Option Nat} {rs : List Nat} (h : SS w w.heap.size sb N n cap gb x go rs W) (t : Bool) : Fin w sb N n x.s rs t (W.setCell ⟨w.heap.size + 2, 0, none⟩ (.bool t)) := by
  obtain ⟨f, s1, s2⟩ := h.sm
  have hB := h.hsb
  refine ⟨(h.b2.set 0 (.bool t)).congr (fun i hi => if_pos (by omega)), ⟨f, s1.setOther (a := ⟨w.heap.size + 2, 0, none⟩) (by simp; omega) _, s2⟩, fun r hr => ⟨(h.mks r hr).1, ?_⟩, h.bt.setCell (p := ⟨w.heap.size + 2, 0, none⟩) (.inl (by simp)) _, hB⟩
  have h2 := (h.mks r hr).2
  have h1 := (h.mks r hr).1
  rw [Below.heap_setCell _ _ _ _ (by simp; omega)]
  exact h2

theorem wrap_ok {z : Int} (h1 : -9223372036854775808 ≤ z) (h2 : z < 9223372036854775808) : IntKind.i64.wrap z = z := by
  rw [IntKind.wrap_i64]
  omega

theorem cell_set_ne {W : World} {p q : Addr} {v x : Value} (h : W.cell? p = some x) (hne : p.block ≠ q.block) : (W.setCell q v).drew.cell? p = some x := by
  have : (W.setCell q v).cell? p = some x := by
    rw [World.cell?_setCell_other _ _ _ _ (by intro e; exact hne (by rw [e]))]
    exact h
  exact this

set_option maxHeartbeats 4000000 in
theorem reg18 {t0 t1 t2 t4 t5 t6 t8 t9 t11 t13 t14 t15 t16 t17 t18 t19 t20 t21 t22 t23 t24 t25 t26 t27 t28 t29 t30 t31 t32 t33 t34 t35 t36 t37 t38 t39 t40 t41 t42 t43 t44 t45 t46 t47 t48 t49 t50 t51 t52 t53 t54 t55 t56 t57 t58 t59 t60 t61 t62 t63 t64 t65 t66 t67 t68 t69 t70 t71 t72 t73 t74 t75 t76 t77 t78 t79 t80 t81 t82 t83 t84 t85 t86 t87 t88 t89 : Value} {D : List Deferred} {r k : Nat} {Q : Exit → Act → World → Prop} {Z : World} {c3 c7 nb bb sb n cap u f' : Nat} {s1 mo cu : Int}
    (hQ : ¬ LetsOut Q) (hQ2 : ∀ (d : Option Tmp) (v : Value) (c : _) (a : Act) (w : World), Q (.panic c) (a.put d v) w → Q (.panic c) a w)
    (i1 : (0 : Int) ≤ (f' : Int)) (i2 : (f' : Int) < (n : Int)) (i3 : (u : Int) < (n : Int)) (i4 : (f' : Int) < 60) (i5 : (0 : Int) ≤ (u : Int)) (i6 : (u : Int) < 60)
    (a1 : IntKind.i64.wrap (s1 + mo) = s1 + mo) (a2 : IntKind.i64.wrap (cu + 1) = cu + 1)
    (n1 : bb ≠ sb) (n2 : nb ≠ sb) (n3 : c3 ≠ sb) (n4 : bb ≠ c7) (n5 : nb ≠ c7) (n6 : c3 ≠ c7) (n7 : sb ≠ c7)
    (z0 : Z.drew.cell? ⟨bb, 0, none⟩ = some (.int .i64 (f' : Int))) (z2 : Z.drew.cell? ⟨bb, 2, none⟩ = some (.int .i64 mo)) (zn : Z.drew.cell? ⟨nb, 0, none⟩ = some (.int .i64 (u : Int)))
    (zr : Z.drew.cell? ⟨c3, 0, none⟩ = some (.slice (some ⟨sb, 0, none⟩) n cap)) (zu : Z.drew.cell? ⟨sb, u, none⟩ = some (.int .i64 s1)) (zc : Z.drew.cell? ⟨c7, u, none⟩ = some (.int .i64 cu))
    {of oc : Value} (yf : Z.drew.cell? ⟨sb, f', none⟩ = some of) (yd : Z.drew.cell? ⟨c7, f', none⟩ = some oc) (ff : Z.drew.frozen? ⟨sb, f', none⟩ = false) (fd : Z.drew.frozen? ⟨c7, f', none⟩ = false)
    (h : ∀ v52 v53 v54 v55 v56 v57 v58 v59 v60 v61 v62 v63 v64 v65 v66 v67 v68 v69 : Value, Q .normal { tmps := #[t0, t1, t2, .pointer (some ⟨c3, 0, none⟩), t4, t5, t6, .pointer (some ⟨c7, 0, none⟩), t8, t9, .pointer (some ⟨nb, 0, none⟩), t11, .pointer (some ⟨bb, 0, none⟩), t13, t14, t15, t16, t17, t18, t19, t20, t21, t22, t23, t24, t25, t26, t27, t28, t29, t30, t31, t32, t33, t34, t35, t36, t37, t38, t39, t40, t41, t42, t43, t44, t45, t46, t47, t48, t49, t50, t51, v52, v53, v54, v55, v56, v57, v58, v59, v60, v61, v62, v63, v64, v65, v66, v67, v68, v69, t70, t71, t72, t73, t74, t75, t76, t77, t78, t79, t80, t81, t82, t83, t84, t85, t86, t87, t88, t89], defers := D } (((Z.setCell ⟨sb, f', none⟩ (.int .i64 (s1 + mo))).setCell ⟨c7, f', none⟩ (.int .i64 (cu + 1))).drew)) :
    (Code.region 18 #[⟨some 52, .load 32 (.tmp 3), 32, "graph.go:112", #[], none⟩, ⟨some 53, .fieldAddr 58 (.tmp 12) 0, 0, "graph.go:112", #[], none⟩, ⟨some 54, .load 3 (.tmp 53), 3, "graph.go:112", #[⟨1, .data⟩], none⟩, ⟨some 55, .fieldAddr 58 (.tmp 12) 0, 0, "graph.go:112", #[⟨17, .gcOnly .lateStores⟩], none⟩, ⟨some 56, .load 3 (.tmp 55), 3, "graph.go:112", #[⟨3, .data⟩, ⟨17, .gcOnly .lateStores⟩], none⟩, ⟨some 57, .load 32 (.tmp 3), 32, "graph.go:112", #[], none⟩, ⟨some 58, .load 3 (.tmp 10), 3, "graph.go:112", #[], none⟩, ⟨some 59, .indexAddr 32 (.tmp 57) (.tmp 58), 0, "graph.go:112", #[⟨5, .data⟩, ⟨6, .data⟩], none⟩, ⟨some 60, .load 3 (.tmp 59), 3, "graph.go:112", #[⟨7, .data⟩], none⟩, ⟨some 61, .fieldAddr 58 (.tmp 12) 2, 0, "graph.go:112", #[], none⟩, ⟨some 62, .load 3 (.tmp 61), 3, "graph.go:112", #[⟨9, .data⟩], none⟩, ⟨some 63, .binOp .add 3 (.tmp 60) (.tmp 62) 3, 3, "graph.go:112", #[⟨8, .data⟩, ⟨10, .data⟩], none⟩, ⟨some 64, .load 3 (.tmp 10), 3, "graph.go:112", #[], none⟩, ⟨some 65, .indexAddr 120 (.tmp 7) (.tmp 64), 0, "graph.go:112", #[⟨12, .data⟩], none⟩, ⟨some 66, .load 3 (.tmp 65), 3, "graph.go:112", #[⟨13, .data⟩], none⟩, ⟨some 67, .binOp .add 3 (.tmp 66) (.const (Value.int .i64 1)) 3, 3, "graph.go:112", #[⟨14, .data⟩], none⟩, ⟨some 68, .indexAddr 32 (.tmp 52) (.tmp 54), 0, "graph.go:112", #[⟨0, .data⟩, ⟨2, .data⟩, ⟨0, .phase⟩, ⟨1, .phase⟩, ⟨2, .phase⟩, ⟨3, .textOnly .lateStores⟩, ⟨4, .textOnly .lateStores⟩, ⟨5, .phase⟩, ⟨6, .phase⟩, ⟨7, .phase⟩, ⟨8, .phase⟩, ⟨9, .phase⟩, ⟨10, .phase⟩, ⟨11, .phase⟩, ⟨12, .textOnly .lateStores⟩, ⟨13, .textOnly .lateStoresUnsure⟩, ⟨14, .textOnly .lateStoresUnsure⟩, ⟨15, .textOnly .lateStoresUnsure⟩], none⟩, ⟨none, .store 3 (.tmp 68) (.tmp 63), 0, "graph.go:112", #[⟨16, .data⟩, ⟨11, .data⟩, ⟨0, .phase⟩, ⟨1, .phase⟩, ⟨2, .phase⟩, ⟨3, .textOnly .lateStores⟩, ⟨4, .textOnly .lateStores⟩, ⟨5, .phase⟩, ⟨6, .phase⟩, ⟨7, .phase⟩, ⟨8, .phase⟩, ⟨9, .phase⟩, ⟨10, .phase⟩, ⟨11, .phase⟩, ⟨12, .textOnly .lateStores⟩, ⟨13, .textOnly .lateStoresUnsure⟩, ⟨14, .textOnly .lateStoresUnsure⟩, ⟨15, .textOnly .lateStoresUnsure⟩], none⟩, ⟨some 69, .indexAddr 120 (.tmp 7) (.tmp 56), 0, "graph.go:112", #[⟨4, .data⟩, ⟨0, .phase⟩, ⟨1, .phase⟩, ⟨2, .phase⟩, ⟨3, .phase⟩, ⟨4, .phase⟩, ⟨5, .phase⟩, ⟨6, .phase⟩, ⟨7, .phase⟩, ⟨8, .phase⟩, ⟨9, .phase⟩, ⟨10, .phase⟩, ⟨11, .phase⟩, ⟨12, .phase⟩, ⟨13, .phase⟩, ⟨14, .phase⟩, ⟨15, .phase⟩, ⟨16, .phase⟩, ⟨17, .phase⟩], none⟩, ⟨none, .store 3 (.tmp 69) (.tmp 67), 0, "graph.go:112", #[⟨18, .data⟩, ⟨15, .data⟩, ⟨17, .chain⟩, ⟨0, .phase⟩, ⟨1, .phase⟩, ⟨2, .phase⟩, ⟨3, .phase⟩, ⟨4, .phase⟩, ⟨5, .phase⟩, ⟨6, .phase⟩, ⟨7, .phase⟩, ⟨8, .phase⟩, ⟨9, .phase⟩, ⟨10, .phase⟩, ⟨11, .phase⟩, ⟨12, .phase⟩, ⟨13, .phase⟩, ⟨14, .phase⟩, ⟨15, .phase⟩, ⟨16, .phase⟩, ⟨17, .phase⟩], none⟩] true).wpIn (Fence.wide.inRound r) k Try.prog Q { tmps := #[t0, t1, t2, .pointer (some ⟨c3, 0, none⟩), t4, t5, t6, .pointer (some ⟨c7, 0, none⟩), t8, t9, .pointer (some ⟨nb, 0, none⟩), t11, .pointer (some ⟨bb, 0, none⟩), t13, t14, t15, t16, t17, t18, t19, t20, t21, t22, t23, t24, t25, t26, t27, t28, t29, t30, t31, t32, t33, t34, t35, t36, t37, t38, t39, t40, t41, t42, t43, t44, t45, t46, t47, t48, t49, t50, t51, t52, t53, t54, t55, t56, t57, t58, t59, t60, t61, t62, t63, t64, t65, t66, t67, t68, t69, t70, t71, t72, t73, t74, t75, t76, t77, t78, t79, t80, t81, t82, t83, t84, t85, t86, t87, t88, t89], defers := D } Z := by
  refine held_round (S := fun W' => W'.cell? ⟨bb, 0, none⟩ = some (.int .i64 (f' : Int)) ∧ W'.cell? ⟨bb, 2, none⟩ = some (.int .i64 mo) ∧ W'.cell? ⟨nb, 0, none⟩ = some (.int .i64 (u : Int)) ∧ W'.cell? ⟨c3, 0, none⟩ = some (.slice (some ⟨sb, 0, none⟩) n cap)) hQ rfl (by kernel_rfl) ⟨z0, z2, zn, zr⟩ ?go
  intro hHeld
  have k1 : (Z.setCell ⟨sb, f', none⟩ (.int .i64 (s1 + mo))).drew.cell? ⟨c7, u, none⟩ = some (.int .i64 cu) := cell_set_ne zc n7.symm
  have k2 : (Z.setCell ⟨sb, f', none⟩ (.int .i64 (s1 + mo))).drew.cell? ⟨c7, f', none⟩ = some oc := cell_set_ne yd n7.symm
  have k3 : (Z.setCell ⟨sb, f', none⟩ (.int .i64 (s1 + mo))).drew.frozen? ⟨c7, f', none⟩ = false := by simpa using fd
  refine wpAnyH_take (i := 0) (v := ?_) rfl (by kernel_rfl) (by kernel_rfl) (by kernel_rfl) (hQ2 _ _) (Or.inl ⟨by rfl, fun w' hSw => by (dsimp only at hSw); go_split_ands; go_simp; try with_reducible rfl⟩) (by assumption) ?_
  try simp only [Act.put, List.setIfInBounds_toArray, List.set_cons_zero, List.set_cons_succ]
  refine wpAnyH_take (i := 1) (v := ?_) rfl (by kernel_rfl) (by kernel_rfl) (by kernel_rfl) (hQ2 _ _) (Or.inl ⟨by rfl, fun w' hSw => by (dsimp only at hSw); go_split_ands; go_simp; try with_reducible rfl⟩) (by assumption) ?_
  try simp only [Act.put, List.setIfInBounds_toArray, List.set_cons_zero, List.set_cons_succ]
  refine wpAnyH_take (i := 2) (v := ?_) rfl (by kernel_rfl) (by kernel_rfl) (by kernel_rfl) (hQ2 _ _) (Or.inl ⟨by rfl, fun w' hSw => by (dsimp only at hSw); go_split_ands; go_simp; try with_reducible rfl⟩) (by assumption) ?_
  try simp only [Act.put, List.setIfInBounds_toArray, List.set_cons_zero, List.set_cons_succ]
  refine wpAnyH_take (i := 3) (v := ?_) rfl (by kernel_rfl) (by kernel_rfl) (by kernel_rfl) (hQ2 _ _) (Or.inl ⟨by rfl, fun w' hSw => by (dsimp only at hSw); go_split_ands; go_simp; try with_reducible rfl⟩) (by assumption) ?_
  try simp only [Act.put, List.setIfInBounds_toArray, List.set_cons_zero, List.set_cons_succ]
  refine wpAnyH_take (i := 4) (v := ?_) rfl (by kernel_rfl) (by kernel_rfl) (by kernel_rfl) (hQ2 _ _) (Or.inl ⟨by rfl, fun w' hSw => by (dsimp only at hSw); go_split_ands; go_simp; try with_reducible rfl⟩) (by assumption) ?_
  try simp only [Act.put, List.setIfInBounds_toArray, List.set_cons_zero, List.set_cons_succ]
  refine wpAnyH_take (i := 5) (v := ?_) rfl (by kernel_rfl) (by kernel_rfl) (by kernel_rfl) (hQ2 _ _) (Or.inl ⟨by rfl, fun w' hSw => by (dsimp only at hSw); go_split_ands; go_simp; try with_reducible rfl⟩) (by assumption) ?_
  try simp only [Act.put, List.setIfInBounds_toArray, List.set_cons_zero, List.set_cons_succ]
  refine wpAnyH_take (i := 6) (v := ?_) rfl (by kernel_rfl) (by kernel_rfl) (by kernel_rfl) (hQ2 _ _) (Or.inl ⟨by rfl, fun w' hSw => by (dsimp only at hSw); go_split_ands; go_simp; try with_reducible rfl⟩) (by assumption) ?_
  try simp only [Act.put, List.setIfInBounds_toArray, List.set_cons_zero, List.set_cons_succ]
  refine wpAnyH_take (i := 7) (v := ?_) rfl (by kernel_rfl) (by kernel_rfl) (by kernel_rfl) (hQ2 _ _) (Or.inl ⟨by rfl, fun w' hSw => by (dsimp only at hSw); go_split_ands; go_simp; try with_reducible rfl⟩) (by assumption) ?_
  try simp only [Act.put, List.setIfInBounds_toArray, List.set_cons_zero, List.set_cons_succ]
  refine wpAnyH_take (i := 9) (v := ?_) rfl (by kernel_rfl) (by kernel_rfl) (by kernel_rfl) (hQ2 _ _) (Or.inl ⟨by rfl, fun w' hSw => by (dsimp only at hSw); go_split_ands; go_simp; try with_reducible rfl⟩) (by assumption) ?_
  try simp only [Act.put, List.setIfInBounds_toArray, List.set_cons_zero, List.set_cons_succ]
  refine wpAnyH_take (i := 10) (v := ?_) rfl (by kernel_rfl) (by kernel_rfl) (by kernel_rfl) (hQ2 _ _) (Or.inl ⟨by rfl, fun w' hSw => by (dsimp only at hSw); go_split_ands; go_simp; try with_reducible rfl⟩) (by assumption) ?_
  try simp only [Act.put, List.setIfInBounds_toArray, List.set_cons_zero, List.set_cons_succ]
  refine wpAnyH_take (i := 12) (v := ?_) rfl (by kernel_rfl) (by kernel_rfl) (by kernel_rfl) (hQ2 _ _) (Or.inl ⟨by rfl, fun w' hSw => by (dsimp only at hSw); go_split_ands; go_simp; try with_reducible rfl⟩) (by assumption) ?_
  try simp only [Act.put, List.setIfInBounds_toArray, List.set_cons_zero, List.set_cons_succ]
  refine wpAnyH_take (i := 13) (v := ?_) rfl (by kernel_rfl) (by kernel_rfl) (by kernel_rfl) (hQ2 _ _) (Or.inl ⟨by rfl, fun w' hSw => by (dsimp only at hSw); go_split_ands; go_simp; try with_reducible rfl⟩) (by assumption) ?_
  try simp only [Act.put, List.setIfInBounds_toArray, List.set_cons_zero, List.set_cons_succ]
  refine wpAnyH_ready (rs := [8, 14]) (by kernel_rfl) (by simp) ?_
  refine AllReadyH.cons rfl (fun Kx hKx => ?_) (AllReadyH.cons rfl (fun Kx hKx => ?_) AllReadyH.nil)
  · go_simp
    refine hKx.out _ _ ?_ (fun hHeld => ?_)
    · exact hHeld
    try simp only [Act.put, List.setIfInBounds_toArray, List.set_cons_zero, List.set_cons_succ]
    refine wpAnyH_take (i := 11) (v := ?_) rfl (by kernel_rfl) (by kernel_rfl) (by kernel_rfl) (hQ2 _ _) (Or.inl ⟨by rfl, fun w' hSw => by (dsimp only at hSw); go_split_ands; go_simp; try with_reducible rfl⟩) (by assumption) ?_
    try simp only [Act.put, List.setIfInBounds_toArray, List.set_cons_zero, List.set_cons_succ]
    refine wpAnyH_take (i := 16) (v := ?_) rfl (by kernel_rfl) (by kernel_rfl) (by kernel_rfl) (hQ2 _ _) (Or.inl ⟨by rfl, fun w' hSw => by (dsimp only at hSw); go_split_ands; go_simp; try with_reducible rfl⟩) (by assumption) ?_
    try simp only [Act.put, List.setIfInBounds_toArray, List.set_cons_zero, List.set_cons_succ]
    refine wpAnyH_ready (rs := [14, 17]) (by kernel_rfl) (by simp) ?_
    refine AllReadyH.cons rfl (fun Kx hKx => ?_) (AllReadyH.cons rfl (fun Kx hKx => ?_) AllReadyH.nil)
    · go_simp
      refine hKx.out _ _ ?_ (fun hHeld => ?_)
      · exact hHeld
      try simp only [Act.put, List.setIfInBounds_toArray, List.set_cons_zero, List.set_cons_succ]
      refine wpAnyH_take (i := 15) (v := ?_) rfl (by kernel_rfl) (by kernel_rfl) (by kernel_rfl) (hQ2 _ _) (Or.inl ⟨by rfl, fun w' hSw => by (dsimp only at hSw); go_split_ands; go_simp; try with_reducible rfl⟩) (by assumption) ?_
      try simp only [Act.put, List.setIfInBounds_toArray, List.set_cons_zero, List.set_cons_succ]
      refine wpAnyH_ready (rs := [17]) (by kernel_rfl) (by simp) ?_
      refine AllReadyH.cons rfl (fun Kx hKx => ?_) AllReadyH.nil
      · go_simp
        refine hKx.out _ _ ?_ (fun hHeld => ?_)
        · exact ⟨cell_set_ne hHeld.1 n1, cell_set_ne hHeld.2.1 n1, cell_set_ne hHeld.2.2.1 n2, cell_set_ne hHeld.2.2.2 n3⟩
        try simp only [Act.put, List.setIfInBounds_toArray, List.set_cons_zero, List.set_cons_succ]
        refine wpAnyH_take (i := 18) (v := ?_) rfl (by kernel_rfl) (by kernel_rfl) (by kernel_rfl) (hQ2 _ _) (Or.inl ⟨by rfl, fun w' hSw => by (dsimp only at hSw); go_split_ands; go_simp; try with_reducible rfl⟩) (by assumption) ?_
        try simp only [Act.put, List.setIfInBounds_toArray, List.set_cons_zero, List.set_cons_succ]
        refine wpAnyH_ready (rs := [19]) (by kernel_rfl) (by simp) ?_
        refine AllReadyH.cons rfl (fun Kx hKx => ?_) AllReadyH.nil
        · go_simp
          refine hKx.out _ _ ?_ (fun hHeld => ?_)
          · exact ⟨cell_set_ne hHeld.1 n4, cell_set_ne hHeld.2.1 n4, cell_set_ne hHeld.2.2.1 n5, cell_set_ne hHeld.2.2.2 n6⟩
          try simp only [Act.put, List.setIfInBounds_toArray, List.set_cons_zero, List.set_cons_succ]
          exact wpAnyH_done (by kernel_rfl) (h _ _ _ _ _ _ _ _ _ _ _ _ _ _ _ _ _ _) _
    · go_simp
      refine hKx.out _ _ ?_ (fun hHeld => ?_)
      · exact ⟨cell_set_ne hHeld.1 n1, cell_set_ne hHeld.2.1 n1, cell_set_ne hHeld.2.2.1 n2, cell_set_ne hHeld.2.2.2 n3⟩
      try simp only [Act.put, List.setIfInBounds_toArray, List.set_cons_zero, List.set_cons_succ]
      refine wpAnyH_ready (rs := [14]) (by kernel_rfl) (by simp) ?_
      refine AllReadyH.cons rfl (fun Kx hKx => ?_) AllReadyH.nil
      · go_simp
        refine hKx.out _ _ ?_ (fun hHeld => ?_)
        · exact hHeld
        try simp only [Act.put, List.setIfInBounds_toArray, List.set_cons_zero, List.set_cons_succ]
        refine wpAnyH_take (i := 15) (v := ?_) rfl (by kernel_rfl) (by kernel_rfl) (by kernel_rfl) (hQ2 _ _) (Or.inl ⟨by rfl, fun w' hSw => by (dsimp only at hSw); go_split_ands; go_simp; try with_reducible rfl⟩) (by assumption) ?_
        try simp only [Act.put, List.setIfInBounds_toArray, List.set_cons_zero, List.set_cons_succ]
        refine wpAnyH_take (i := 18) (v := ?_) rfl (by kernel_rfl) (by kernel_rfl) (by kernel_rfl) (hQ2 _ _) (Or.inl ⟨by rfl, fun w' hSw => by (dsimp only at hSw); go_split_ands; go_simp; try with_reducible rfl⟩) (by assumption) ?_
        try simp only [Act.put, List.setIfInBounds_toArray, List.set_cons_zero, List.set_cons_succ]
        refine wpAnyH_ready (rs := [19]) (by kernel_rfl) (by simp) ?_
        refine AllReadyH.cons rfl (fun Kx hKx => ?_) AllReadyH.nil
        · go_simp
          refine hKx.out _ _ ?_ (fun hHeld => ?_)
          · exact ⟨cell_set_ne hHeld.1 n4, cell_set_ne hHeld.2.1 n4, cell_set_ne hHeld.2.2.1 n5, cell_set_ne hHeld.2.2.2 n6⟩
          try simp only [Act.put, List.setIfInBounds_toArray, List.set_cons_zero, List.set_cons_succ]
          exact wpAnyH_done (by kernel_rfl) (h _ _ _ _ _ _ _ _ _ _ _ _ _ _ _ _ _ _) _
  · go_simp
    refine hKx.out _ _ ?_ (fun hHeld => ?_)
    · exact hHeld
    try simp only [Act.put, List.setIfInBounds_toArray, List.set_cons_zero, List.set_cons_succ]
    refine wpAnyH_take (i := 15) (v := ?_) rfl (by kernel_rfl) (by kernel_rfl) (by kernel_rfl) (hQ2 _ _) (Or.inl ⟨by rfl, fun w' hSw => by (dsimp only at hSw); go_split_ands; go_simp; try with_reducible rfl⟩) (by assumption) ?_
    try simp only [Act.put, List.setIfInBounds_toArray, List.set_cons_zero, List.set_cons_succ]
    refine wpAnyH_ready (rs := [8]) (by kernel_rfl) (by simp) ?_
    refine AllReadyH.cons rfl (fun Kx hKx => ?_) AllReadyH.nil
    · go_simp
      refine hKx.out _ _ ?_ (fun hHeld => ?_)
      · exact hHeld
      try simp only [Act.put, List.setIfInBounds_toArray, List.set_cons_zero, List.set_cons_succ]
      refine wpAnyH_take (i := 11) (v := ?_) rfl (by kernel_rfl) (by kernel_rfl) (by kernel_rfl) (hQ2 _ _) (Or.inl ⟨by rfl, fun w' hSw => by (dsimp only at hSw); go_split_ands; go_simp; try with_reducible rfl⟩) (by assumption) ?_
      try simp only [Act.put, List.setIfInBounds_toArray, List.set_cons_zero, List.set_cons_succ]
      refine wpAnyH_take (i := 16) (v := ?_) rfl (by kernel_rfl) (by kernel_rfl) (by kernel_rfl) (hQ2 _ _) (Or.inl ⟨by rfl, fun w' hSw => by (dsimp only at hSw); go_split_ands; go_simp; try with_reducible rfl⟩) (by assumption) ?_
      try simp only [Act.put, List.setIfInBounds_toArray, List.set_cons_zero, List.set_cons_succ]
      refine wpAnyH_ready (rs := [17]) (by kernel_rfl) (by simp) ?_
      refine AllReadyH.cons rfl (fun Kx hKx => ?_) AllReadyH.nil
      · go_simp
        refine hKx.out _ _ ?_ (fun hHeld => ?_)
        · exact ⟨cell_set_ne hHeld.1 n1, cell_set_ne hHeld.2.1 n1, cell_set_ne hHeld.2.2.1 n2, cell_set_ne hHeld.2.2.2 n3⟩
        try simp only [Act.put, List.setIfInBounds_toArray, List.set_cons_zero, List.set_cons_succ]
        refine wpAnyH_take (i := 18) (v := ?_) rfl (by kernel_rfl) (by kernel_rfl) (by kernel_rfl) (hQ2 _ _) (Or.inl ⟨by rfl, fun w' hSw => by (dsimp only at hSw); go_split_ands; go_simp; try with_reducible rfl⟩) (by assumption) ?_
        try simp only [Act.put, List.setIfInBounds_toArray, List.set_cons_zero, List.set_cons_succ]
        refine wpAnyH_ready (rs := [19]) (by kernel_rfl) (by simp) ?_
        refine AllReadyH.cons rfl (fun Kx hKx => ?_) AllReadyH.nil
        · go_simp
          refine hKx.out _ _ ?_ (fun hHeld => ?_)
          · exact ⟨cell_set_ne hHeld.1 n4, cell_set_ne hHeld.2.1 n4, cell_set_ne hHeld.2.2.1 n5, cell_set_ne hHeld.2.2.2 n6⟩
          try simp only [Act.put, List.setIfInBounds_toArray, List.set_cons_zero, List.set_cons_succ]
          exact wpAnyH_done (by kernel_rfl) (h _ _ _ _ _ _ _ _ _ _ _ _ _ _ _ _ _ _) _
end Go.Proofs.Ytkcchangkhklcaa

/- The contract of package chain's settle. -/
namespace Go.Proofs.Ytkcchangkhklcaa
open Go.RowKit Go.Shelf
attribute [local go_sem] Oper.semAt_some

theorem row_repl (W : World) (z : Value) (k : Nat) (T : TypeId) : (W.alloc (Obj.cells (Array.replicate k z) T)).rowIs W.heap.size T k (fun _ => z) := by
  have h := World.rowIs_alloc W (Array.replicate k z) T (fun _ => z) (fun i hi => by rw [Array.getElem?_replicate, if_pos (by simpa using hi)])
  rw [Array.size_replicate] at h
  exact h

theorem start0_w (s : List Int) (i : Nat) : (Ch.start0 s 0).w.getD i false = false := by
  unfold Ch.start0
  by_cases h : i < 60
  · show ((List.range 60).map fun v => decide (v < 0) && s.getD v 0 != Ch.free).getD i false = false
    rw [Ch.w_at h]; simp
  · rw [List.getD, List.getElem?_eq_none (by simp; omega)]; rfl
theorem start0_c (s : List Int) (k i : Nat) : (Ch.start0 s k).c.getD i 0 = 0 := by
  show (List.replicate 60 (0 : Int)).getD i 0 = 0
  rw [List.getD, List.getElem?_replicate]
  split <;> rfl

/-- settle's memory at the start -/
theorem ss_start {w : World} {sb N n cap gb : Nat} {s : List Int} {f : Nat → Value} (hN : n ≤ N) (hr : w.rowIs sb 3 N f) (hf : ∀ i, i < n → f i = .int .i64 (s.getD i 0)) :
    SS w w.heap.size sb N n cap gb (Ch.start0 s 0) none [] ((((((w.alloc (Obj.cells #[.pointer (some ⟨gb, 0, none⟩)] 69)).alloc (Obj.cells #[.slice (some ⟨sb, 0, none⟩) n cap] 32)).alloc (Obj.cells #[.bool false] 4)).alloc (Obj.cells #[.slice none 0 0] 118)).alloc (Obj.cells (Array.replicate 60 (.bool false)) 119)).alloc (Obj.cells (Array.replicate 60 (.int .i64 0)) 120)) := by
  have one : ∀ (W : World) (z : Value) (T : TypeId), (W.alloc (Obj.cells #[z] T)).rowIs W.heap.size T 1 (fun _ => z) := fun W z T => row_repl W z 1 T
  generalize hA : w.alloc (Obj.cells #[.pointer (some ⟨gb, 0, none⟩)] 69) = A
  have zA : A.heap.size = w.heap.size + 1 := by rw [← hA]; simp
  generalize hB : A.alloc (Obj.cells #[.slice (some ⟨sb, 0, none⟩) n cap] 32) = B
  have zB : B.heap.size = w.heap.size + 2 := by rw [← hB]; simp [zA]
  generalize hC : B.alloc (Obj.cells #[.bool false] 4) = C
  have zC : C.heap.size = w.heap.size + 3 := by rw [← hC]; simp [zB]
  generalize hD : C.alloc (Obj.cells #[.slice none 0 0] 118) = D
  have zD : D.heap.size = w.heap.size + 4 := by rw [← hD]; simp [zC]
  generalize hE : D.alloc (Obj.cells (Array.replicate 60 (.bool false)) 119) = E
  have zE : E.heap.size = w.heap.size + 5 := by rw [← hE]; simp [zD]
  have r0 := one w (.pointer (some ⟨gb, 0, none⟩)) 69
  rw [hA] at r0
  have r1 := one A (.slice (some ⟨sb, 0, none⟩) n cap) 32
  rw [hB, zA] at r1
  have r2 := one B (.bool false) 4
  rw [hC, zB] at r2
  have r3 := one C (.slice none 0 0) 118
  rw [hD, zC] at r3
  have r4 := row_repl D (.bool false) 60 119
  rw [hE, zD] at r4
  have r5 := row_repl E (.int .i64 0) 60 120
  rw [zE] at r5
  have bA : Below w.heap.size w A := by rw [← hA]; exact (Below.refl _ _).alloc (Nat.le_refl _) _
  have bB : Below w.heap.size w B := by rw [← hB]; exact bA.alloc bA.size _
  have bC : Below w.heap.size w C := by rw [← hC]; exact bB.alloc bB.size _
  have bD : Below w.heap.size w D := by rw [← hD]; exact bC.alloc bC.size _
  have bE : Below w.heap.size w E := by rw [← hE]; exact bD.alloc bD.size _
  have kAB : ∀ {b : Nat} {T : TypeId} {k : Nat} {g : Nat → Value}, A.rowIs b T k g → B.rowIs b T k g := fun h => by rw [← hB]; exact h.alloc _
  have kBC : ∀ {b : Nat} {T : TypeId} {k : Nat} {g : Nat → Value}, B.rowIs b T k g → C.rowIs b T k g := fun h => by rw [← hC]; exact h.alloc _
  have kCD : ∀ {b : Nat} {T : TypeId} {k : Nat} {g : Nat → Value}, C.rowIs b T k g → D.rowIs b T k g := fun h => by rw [← hD]; exact h.alloc _
  have kDE : ∀ {b : Nat} {T : TypeId} {k : Nat} {g : Nat → Value}, D.rowIs b T k g → E.rowIs b T k g := fun h => by rw [← hE]; exact h.alloc _
  refine ⟨rfl, hr.lt, hN, (kDE (kCD (kBC (kAB r0)))).alloc _, (kDE (kCD (kBC r1))).alloc _, (kDE (kCD r2)).alloc _, ?_, fun g e => (by cases e), (r4.alloc _).congr (fun i _ => by rw [start0_w]), r5.congr (fun i _ => by rw [start0_c]), ⟨f, (Below.row bE hr).alloc _, hf⟩, fun r hr => by simp at hr, .of_below (bE.alloc bE.size _)⟩
  exact ⟨none, 0, (kDE r3).alloc _, Nat.le_refl _, .inl ⟨rfl, rfl, rfl⟩⟩

theorem start0_ok {n : Nat} {s : List Int} (n1 : 1 ≤ n) (n2 : n ≤ 60) (hs : Hid (s.length = n)) (hb : Hid (∀ i, i < n → 0 ≤ s.getD i 0 ∧ s.getD i 0 ≤ 1152921504606846976)) (k : Nat) (hk : k ≤ n) : Ch.WF n (Ch.start0 s k) := Ch.start0_wf n1 n2 hs.out hb.out k hk

set_option maxRecDepth 100000 in
set_option maxHeartbeats 4000000 in
theorem settle_any (n gb sb N cap : Nat) (n1 : 1 ≤ n) (n2 : n ≤ 60) (hN : n ≤ N) (s : List Int) (hs : Hid (s.length = n)) (L : List Ch.Lk) (drop : List Bool) (fuel : Nat) (R : Option (List Int)) (hR : Hid (Ch.settle n L drop fuel s = some R)) (H ib db m : Nat) (a : Option Addr) (cap0 : Nat) (V : Nat → Value) (hsbH : H ≤ sb) (w : World) (G : Hid (Gr w H gb ib db n m a cap0 V L (fun i => drop.getD i false))) (f : Nat → Value) (hr : Hid (w.rowIs sb 3 N f)) (hf : Hid (∀ i, i < n → f i = .int .i64 (s.getD i 0))) (hb : Hid (∀ i, i < n → 0 ≤ s.getD i 0 ∧ s.getD i 0 ≤ 1152921504606846976)) :
    Calls Try.prog 75 #[.pointer (some ⟨gb, 0, none⟩), .slice (some ⟨sb, 0, none⟩) n cap] w (SetPost w sb N n R) := by
  refine (callsIn_wide (n := 7)).1 ?_
  refine callsIn_of_wp_marks Try.func75 rfl trivial ?_ rfl
  simp only [Try.ntmps75, List.size_toArray, List.length_cons, List.length_nil, Nat.reduceAdd, Nat.reduceSub, Array.replicate_succ, Array.replicate_zero, List.push_toArray, List.append_toArray, List.nil_append, List.cons_append]
  gi_wp2_with fail
  gi_loopw [15] (fun i wr => ∃ (k : Nat) (go : Option Nat), k ≤ n ∧ i = .int .i64 k ∧ Hid (SS w w.heap.size sb N n cap gb (Ch.start0 s k) go [] wr)) (fun i _ => n - (RowKit.intOf i).toNat)
  case atStart => exact ⟨0, none, Nat.zero_le _, rfl, Lib.hid (ss_start hN hr.out hf.out)⟩
  case round =>
    obtain ⟨k, go, hk, rfl, HS⟩ := hrel
    by_cases hlt : k < n
    · obtain ⟨f2, s1, s2⟩ := HS.out.sm
      have hc := s1.cell (i := k) (by have := HS.out.hN; omega)
      have hsk : f2 k = .int .i64 (s.getD k 0) := s2 k hlt
      rw [hsk] at hc
      have hmiss := fun h => Ch.start0_miss (s := s) (k := k) h
      have hhit := fun h => Ch.start0_hit (s := s) (k := k) h
      have hbk := hb.out k hlt
      obtain ⟨z, hz⟩ : ∃ z, s.getD k 0 = z := ⟨_, rfl⟩
      rw [hz] at hc hmiss hhit hbk
      clear s1 s2 hsk
      replace hz := Lib.hid hz
      have hi5 : (k : Int) < (n : Int) := by omega
      by_cases hfree : z = 1152921504606846976
      · subst hfree
        replace hmiss := Lib.hid (hmiss rfl)
        clear hhit
        gi_wp2
        go_roundw
        case rel => exact ⟨k + 1, go, by omega, by go_num, Lib.hid (by rw [hmiss.out]; exact HS.out)⟩
        case measure => first | (simp [RowKit.intOf]; done) | (simp [RowKit.intOf]; omega) | omega
      · have hne : (z != 1152921504606846976) = true := by rw [bne_iff_ne]; exact hfree
        replace hhit := Lib.hid (hhit hfree)
        clear hmiss
        have hwf := start0_ok n1 n2 hs hb k hk
        gi_wp2_with fail
        refine ⟨trivial, ?_⟩
        refine (callsIn_wide.2 (put_any _ go (k : Int) ((Ch.start0 s k).q.map fun u : Nat => (u : Int)) (by have := hwf.qlen; simp; omega) wr HS.out.q)).mono ?_
        rintro e w2 ⟨rfl, go', hq2, hb2, hg2⟩
        have H2 := HS.out.queue (q := (Ch.start0 s k).q ++ [k]) (by rw [List.map_append]; exact hq2) hb2 hg2
        have c4 : w2.cell? ⟨w.heap.size + 1 + 1 + 1 + 1, k, none⟩ = some (.bool ((Ch.start0 s k).w.getD k false)) := H2.wt.cell (by omega)
        have c5 : w2.frozen? ⟨w.heap.size + 1 + 1 + 1 + 1, k, none⟩ = false := H2.wt.frozen k
        have H3 := Lib.hid (H2.wait (by simp [Ch.start0]) (v := k) (by omega) true)
        have i6 : (0 : Int) ≤ (k : Int) := by omega
        have i7 : (k : Int) < 60 := by omega
        clear hq2 hb2 hg2 H2 HS hc hwf
        generalize (Ch.start0 s k).w.getD k false = old at c4
        gi_wp2
        go_roundw
        case rel => exact ⟨k + 1, go', by omega, by go_num, Lib.hid (by rw [hhit.out]; exact H3.out)⟩
        case measure => first | (simp [RowKit.intOf]; done) | (simp [RowKit.intOf]; omega) | omega
    · obtain rfl : n = k := by omega
      have hneg : ¬ (n : Int) < (n : Int) := by omega
      have HS0 : Hid (SS w w.heap.size sb N n cap gb (Ch.settle0 s) go [] wr) := Lib.hid (by rw [← Ch.start0_all, hs.out]; exact HS.out)
      clear HS
      -- LOOP2
      gi_wp2
      rename_i Kx Qx Kx1 ax
      clear ax Kx1 Qx Kx
      generalize hQ0 : Exit.inBlock 2 _ = Q0
      replace hQ0 := Lib.hid hQ0
      refine wpIn_loop_ghost_k (fun gk a' W => ∃ (v10 v11 v12 v27 v28 v29 v30 v31 v32 v33 v34 v35 v36 v37 v38 v39 v40 v41 v42 v43 v44 v45 v46 v47 v48 v49 v50 v51 v52 v53 v54 v55 v56 v57 v58 v59 v60 v61 v62 v63 v64 v65 v66 v67 v68 v69 v70 v71 v72 v73 v74 v75 v76 v77 v78 v79 v80 v81 v82 v83 v84 v85 v86 v87 v88 v89 : Value) (x : Ch.St) (go : Option Nat) (rs : List Nat), (Hid (Ch.WF n x) ∧ Hid (Ch.settleGo n L drop gk x = some R) ∧ Hid rs.Nodup ∧ Hid (SS w w.heap.size sb N n cap gb x go rs W)) ∧ a' = { tmps := #[.pointer (some ⟨gb, 0, none⟩), .slice (some ⟨sb, 0, none⟩) n cap, .pointer (some ⟨w.heap.size, 0, none⟩), .pointer (some ⟨w.heap.size + 1, 0, none⟩), .pointer (some ⟨w.heap.size + 1 + 1, 0, none⟩), .pointer (some ⟨w.heap.size + 1 + 1 + 1, 0, none⟩), .pointer (some ⟨w.heap.size + 1 + 1 + 1 + 1, 0, none⟩), .pointer (some ⟨w.heap.size + 1 + 1 + 1 + 1 + 1, 0, none⟩), u8, u9, v10, v11, v12, .slice (some ⟨sb, 0, none⟩) n cap, .int .i64 n, .int .i64 n, .bool false, u17, u18, u19, u20, u21, u22, u23, u24, u25, u26, v27, v28, v29, v30, v31, v32, v33, v34, v35, v36, v37, v38, v39, v40, v41, v42, v43, v44, v45, v46, v47, v48, v49, v50, v51, v52, v53, v54, v55, v56, v57, v58, v59, v60, v61, v62, v63, v64, v65, v66, v67, v68, v69, v70, v71, v72, v73, v74, v75, v76, v77, v78, v79, v80, v81, v82, v83, v84, v85, v86, v87, v88, v89], defers := marks rs }) fuel ?_ ?_
      · refine ⟨_, _, _, _, _, _, _, _, _, _, _, _, _, _, _, _, _, _, _, _, _, _, _, _, _, _, _, _, _, _, _, _, _, _, _, _, _, _, _, _, _, _, _, _, _, _, _, _, _, _, _, _, _, _, _, _, _, _, _, _, _, _, _, _, _, _, Ch.settle0 s, go, [], ⟨?_, ?_, ?_, HS0⟩, rfl⟩
        · exact Lib.hid (by rw [← Ch.start0_all, hs.out]; exact start0_ok n1 n2 hs hb n (Nat.le_refl _))
        · exact Lib.hid hR.out
        · exact Lib.hid List.nodup_nil
      · clear HS0
        rintro gk _ wr ⟨v10, v11, v12, v27, v28, v29, v30, v31, v32, v33, v34, v35, v36, v37, v38, v39, v40, v41, v42, v43, v44, v45, v46, v47, v48, v49, v50, v51, v52, v53, v54, v55, v56, v57, v58, v59, v60, v61, v62, v63, v64, v65, v66, v67, v68, v69, v70, v71, v72, v73, v74, v75, v76, v77, v78, v79, v80, v81, v82, v83, v84, v85, v86, v87, v88, v89, x, go, rs, ⟨HW, HR, HN, HS⟩, rfl⟩ J K hJ hK
        replace hJ := Lib.hid hJ
        replace hK := Lib.hid hK
        cases hq : x.q with
        | nil =>
          have HQ := HS.out.q
          rw [hq] at HQ
          have c2 : wr.cell? ⟨w.heap.size + 1 + 1, 0, none⟩ = some (.bool false) := HS.out.b2.cell (i := 0) (by omega)
          have f2 : wr.frozen? ⟨w.heap.size + 1 + 1, 0, none⟩ = false := HS.out.b2.frozen 0
          have l2 : w.heap.size + 1 + 1 < wr.heap.size := HS.out.b2.lt
          gi_wp2_with fail
          refine ⟨trivial, ?_⟩
          refine (callsIn_wide.2 (take_none _ go wr HQ)).mono ?_
          rintro e w2 ⟨rfl, hw⟩
          subst hw
          clear HQ
          gi_wp2
          have E : R = some x.s := by
            have h := HR.out
            cases gk with
            | zero => simp [Ch.settleGo] at h
            | succ gk =>
              rw [Ch.settleGo, hq] at h
              exact (Option.some.inj h).symm
          subst E
          rw [← hQ0.out]
          exact settle_end (HS.out.fin true _) HN.out rfl
        | cons u q =>
          have HQ := HS.out.q
          rw [hq, List.map_cons] at HQ
          have huq := HW.out.q u (by rw [hq]; exact List.mem_cons_self)
          have u0 : (0 : Int) ≤ (u : Int) := by omega
          have u6 : (u : Int) < 60 := by have := huq.1; omega
          have hun : u < n := huq.1
          gi_wp2_with fail
          refine ⟨trivial, ?_⟩
          refine (callsIn_wide.2 (take_some _ go (u : Int) (q.map fun v : Nat => (v : Int)) wr HQ)).mono ?_
          rintro e w2 ⟨rfl, hq2, hb2⟩
          have H2 := HS.out.queue (q := q) hq2 (hb2.mono (fun _ _ h => .inl h)) (.inl rfl)
          have c4 : w2.cell? ⟨w.heap.size + 1 + 1 + 1 + 1, u, none⟩ = some (.bool (x.w.getD u false)) := H2.wt.cell (by omega)
          have f4 : w2.frozen? ⟨w.heap.size + 1 + 1 + 1 + 1, u, none⟩ = false := H2.wt.frozen u
          have l4 : w.heap.size + 1 + 1 + 1 + 1 < w2.heap.size := H2.wt.lt
          have c0 : w2.cell? ⟨w.heap.size, 0, none⟩ = some (.pointer (some ⟨gb, 0, none⟩)) := H2.b0.cell (i := 0) (by omega)
          have l0 : w.heap.size < w2.heap.size := H2.b0.lt
          have lsz : w.heap.size + 6 ≤ w2.heap.size := H2.ct.lt
          have hgo : Hid (∀ g, go = some g → g < w2.heap.size) := Lib.hid (fun g e => by obtain ⟨_, _, h⟩ := H2.go_cells e; exact h.lt)
          have H3 := Lib.hid ((H2.wait HW.out.w (v := u) (by omega) false).below ((Below.refl _ _).alloc (Nat.le_refl _) (Obj.cells #[.int .i64 (u : Int)] 3)))
          have HW3 := Lib.hid (HW.out.take hq)
          generalize x.w.getD u false = old at c4
          clear HQ hq2 hb2 H2 HS huq
          gi_wp2_with fail
          have nb0 : ((w2.setCell ⟨w.heap.size + 1 + 1 + 1 + 1, u, none⟩ (.bool false)).alloc (Obj.cells #[.int .i64 (u : Int)] 3)).cell? ⟨w2.heap.size, 0, none⟩ = some (.int .i64 (u : Int)) := by simp [go_sem]
          have nbB : w.heap.size + 6 ≤ w2.heap.size := Nat.le_trans (Nat.le_of_eq rfl) lsz
          clear c4 f4 c0 l4 l0 lsz
          have hX2 : ((w2.setCell ⟨w.heap.size + 1 + 1 + 1 + 1, u, none⟩ (.bool false)).alloc (Obj.cells #[.int .i64 (u : Int)] 3)).heap.size = w2.heap.size + 1 := by simp
          generalize (w2.setCell ⟨w.heap.size + 1 + 1 + 1 + 1, u, none⟩ (.bool false)).alloc (Obj.cells #[.int .i64 (u : Int)] 3) = X2 at *
          generalize w2.heap.size = nb at *
          replace hX2 := Lib.hid hX2
          refine ⟨trivial, ?_⟩
          refine (callsIn_wide.2 (linksInto_any gb u _)).mono ?_
          rintro e w3 ⟨rfl, rfl⟩
          gi_wp2_with fail
          obtain ⟨av, cr, hV, _⟩ := G.out.v u hun
          refine range_nextB (fun l : Ch.Lk => Obj.cells #[.int .i64 l.f, .int .i64 l.t, .int .i64 l.m] 58) (enc := lkV) (n := 7) (by omega) (gf := 100) (lb := #[.pointer (some ⟨X2.heap.size, 0, none⟩), .pointer (some ⟨X2.heap.size + 1, 0, none⟩)]) rfl (enters_of Try.func100 (by kernel_rfl) rfl)
            (linksInto_hands 6 (by omega) X2.heap.size (X2.heap.size + 1) gb ib db n m u hun a av cap0 cr (Ch.into L u) (Nat.le_trans (into_len L u) (by rw [G.out.hm]; exact G.out.m3)) (fun k hk => by rw [← G.out.hm]; exact into_lt hk) L (fun i => drop.getD i false) _) (Below.refl _ _)
            (RI w _ sb N n cap gb u nb X2.heap.size (X2.heap.size + 1) { x with w := x.w.set u false, q := q } rs) (RX w _ sb N n u { x with w := x.w.set u false, q := q } rs) (ri_own _ _ _ _ _ _ _ _ _ _ _ _ _) (rx_own _ _ _ _ _ _ _ _) ?keep ?init (fun x b => { tmps := #[.pointer (some ⟨gb, 0, none⟩), .slice (some ⟨sb, 0, none⟩) n cap, .pointer (some ⟨w.heap.size, 0, none⟩), .pointer (some ⟨w.heap.size + 1, 0, none⟩), .pointer (some ⟨w.heap.size + 1 + 1, 0, none⟩), .pointer (some ⟨w.heap.size + 1 + 1 + 1, 0, none⟩), .pointer (some ⟨w.heap.size + 1 + 1 + 1 + 1, 0, none⟩), .pointer (some ⟨w.heap.size + 1 + 1 + 1 + 1 + 1, 0, none⟩), u8, u9, .pointer (some ⟨nb, 0, none⟩), .bool true, .pointer (some ⟨b, 0, none⟩), .slice (some ⟨sb, 0, none⟩) n cap, .int .i64 n, .int .i64 n, .bool false, u17, u18, u19, u20, u21, u22, u23, u24, u25, u26, .tuple #[.int .i64 u, .bool true], .tuple #[.int .i64 u, .bool true], .int .i64 u, .bool true, .bool true, .bool false, .int .i64 u, .pointer (some ⟨w.heap.size + 1 + 1 + 1 + 1, u, none⟩), .pointer (some ⟨gb, 0, none⟩), .int .i64 u, .func (.func 100) #[] #[.pointer (some ⟨X2.heap.size, 0, none⟩), .pointer (some ⟨X2.heap.size + 1, 0, none⟩)], lkV x, v39, v40, v41, v42, v43, v44, v45, v46, v47, v48, v49, v50, v51, v52, v53, v54, v55, v56, v57, v58, v59, v60, v61, v62, v63, v64, v65, v66, v67, v68, v69, v70, v71, v72, v73, v74, v75, v76, v77, v78, v79, v80, v81, v82, v83, v84, v85, v86, v87, v88, v89], defers := [] }) ?assign ?body ?done ?stop
          case keep =>
            rintro pre W ⟨y, go', _, _, h3, _, h5, h6, _⟩
            exact (G.out.below (h3.bt.below G.out.hH (fun k hk => by omega))).lk hun hV h5 h6
          case init =>
            have hsz2 : X2.heap.size = nb + 1 := hX2.out
            have e2 : (X2.alloc (Obj.cells #[.pointer (some ⟨gb, 0, none⟩)] 69)).heap.size = X2.heap.size + 1 := by simp
            refine ⟨_, go, rfl, HW3.out, H3.out.below (((Below.refl _ _).alloc (Nat.le_refl _) _).alloc (by rw [e2]; omega) _), cell_alloc (cell_alloc nb0 _) _, by simp [go_sem], by simp [go_sem], fun g e => ?_, fun r hr => ?_, ?_⟩
            · have := hgo.out g e
              exact ⟨by omega, by omega, by omega⟩
            · have := (Array.getElem?_eq_some_iff.1 (H3.out.mks r hr).2).1
              simp; omega
            · simp; omega
          case assign =>
            intro l x' W K' hK'
            obtain ⟨f', t', mo'⟩ := x'
            simp only [lkV] at hK' ⊢
            gi_wp2
            exact hK'
          case body =>
            rintro l pre ⟨f', t', mo'⟩ W r r' ⟨y, go', g1, g2, g3, g4, g5, g6, g7, g8, g9⟩ hpre hl hlr
            obtain ⟨i, hi, hli, htu⟩ := outs_mem hpre
            have hokk : Hid (Ch.okLk n ⟨f', t', mo'⟩ = true) := Lib.hid (by have := G.out.ok i hi; rw [← hli] at this; exact this)
            have hok := Ch.okLk_spec hokk.out
            simp only at htu hok
            subst htu
            obtain ⟨o1, o2, _, _, o5, o6, o7⟩ := hok
            obtain ⟨f'', rfl⟩ : ∃ k : Nat, f' = (k : Int) := ⟨f'.toNat, by omega⟩
            have hfn : f'' < n := by omega
            have hbz : ∀ g, go' = some g → g < W.heap.size := fun g e => by obtain ⟨_, _, h⟩ := g3.go_cells e; exact h.lt
            have hlW : l < W.heap.size := (Array.getElem?_eq_some_iff.1 hlr).1
            have hbA : But (fun k => k = l) W ((W.alloc (Obj.cells #[.int .i64 (f'' : Int), .int .i64 (u : Int), .int .i64 mo'] 58)).putObj l (.loop r')) := ((But.refl _ _).alloc _).trans (but_putObj l _)
            have hgl : ∀ g, go' = some g → g ≠ l := fun g e1 e2 => by
              obtain ⟨_, _, h⟩ := g3.go_cells e1
              obtain ⟨_, h10, _⟩ := h
              rw [e2, hlr] at h10
              cases h10
            have X3 := g3.but hbA (fun k hk e => by omega) (fun g e1 e2 => hgl g e1 e2) (fun r1 hm e => by have := g8 r1 hm; omega)
            have n1l : l ≠ nb := fun e => by
              subst e
              unfold World.cell? at g4
              rw [hlr] at g4
              cases g4
            have Xn := hbA.kept g4 (fun e => n1l e.symm)
            have n5l : l ≠ X2.heap.size := fun e => by
              subst e
              unfold World.cell? at g5
              rw [hlr] at g5
              cases g5
            have X5 := hbA.kept g5 (fun e => n5l e.symm)
            have n6l : l ≠ X2.heap.size + 1 := fun e => by
              subst e
              unfold World.cell? at g6
              rw [hlr] at g6
              cases g6
            have X6 := hbA.kept g6 (fun e => n6l e.symm)
            have Xg := (G.out.below (X3.bt.below G.out.hH (fun k hk => by omega))).g.cell (i := 0) (by omega)
            have B1 : ((W.alloc (Obj.cells #[.int .i64 (f'' : Int), .int .i64 (u : Int), .int .i64 mo'] 58)).putObj l (.loop r')).rowIs W.heap.size 58 3 (fun i => (#[Value.int .i64 (f'' : Int), .int .i64 (u : Int), .int .i64 mo'][i]?).getD undef) :=
              (World.rowIs_alloc W #[.int .i64 (f'' : Int), .int .i64 (u : Int), .int .i64 mo'] 58 _ (fun i hi => by rw [Array.getElem?_eq_getElem hi]; rfl)).of_block ((but_putObj l _).block _ (by simp) (by omega))
            have hwy := Lib.hid g2
            have hX3 := Lib.hid X3
            have q0 := B1.cell (i := 0) (by omega)
            have q1 := B1.cell (i := 1) (by omega)
            have q2 := B1.cell (i := 2) (by omega)
            obtain ⟨fs, s1, s2⟩ := X3.sm
            have su := s1.cell (i := u) (by have := X3.hN; omega)
            have sf := s1.cell (i := f'') (by have := X3.hN; omega)
            rw [s2 u hun] at su
            rw [s2 f'' hfn] at sf
            have r1 : ((W.alloc (Obj.cells #[.int .i64 (f'' : Int), .int .i64 (u : Int), .int .i64 mo'] 58)).putObj l (.loop r')).cell? ⟨w.heap.size + 1, 0, none⟩ = some (.slice (some ⟨sb, 0, none⟩) n cap) := X3.b1.cell (i := 0) (by omega)
            have lou := g2.lo u hun
            have hiu := g2.hi u hun
            have cbu := g2.cb u hun
            obtain ⟨su', hsu⟩ : ∃ z, y.s.getD u 0 = z := ⟨_, rfl⟩
            obtain ⟨sf', hsf⟩ : ∃ z, y.s.getD f'' 0 = z := ⟨_, rfl⟩
            obtain ⟨cu, hcu⟩ : ∃ z, y.c.getD u 0 = z := ⟨_, rfl⟩
            rw [hsu] at su lou hiu
            rw [hcu] at lou cbu
            rw [hsf] at sf
            have hKA : KeepsFrom (((X2.alloc (Obj.cells #[.pointer (some ⟨gb, 0, none⟩)] 69)).alloc (Obj.cells #[.int .i64 (u : Int)] 3)).heap.size) ((W.alloc (Obj.cells #[.int .i64 (f'' : Int), .int .i64 (u : Int), .int .i64 mo'] 58)).putObj l (.loop r')) ((W.alloc (Obj.cells #[.int .i64 (f'' : Int), .int .i64 (u : Int), .int .i64 mo'] 58)).putObj l (.loop r')) := KeepsFrom.refl _ _
            replace hKA := Lib.hid hKA
            have hbb : w.heap.size + 6 ≤ W.heap.size := g3.ct.lt
            clear X3 s1 s2 g3 hli hpre hlr hbA
            generalize (W.alloc (Obj.cells #[.int .i64 (f'' : Int), .int .i64 (u : Int), .int .i64 mo'] 58)).putObj l (.loop r') = X at *
            generalize W.heap.size = bb at *
            by_cases hlow : sf' ≤ su' + mo'
            · have hrx : Hid (Ch.relaxAll n u (pre ++ [⟨(f'' : Int), (u : Int), mo'⟩]) { x with w := x.w.set u false, q := q } = some y) := Lib.hid (by
                rw [Ch.relaxAll_snoc, g1]
                show Ch.relax n u _ y = some y
                unfold Ch.relax
                rw [if_pos (by simp only [Int.toNat_natCast]; rw [hsu, hsf]; exact hlow)])
              clear g1
              gi_wp2_with fail
              refine quiet_round (F := Fence.wide) rfl (by kernel_rfl) (by kernel_rfl) (by kernel_rfl) ?_
              repeat (gi_big_quiet_step (fail))
              refine wpQuietIn_nil ?_
              rintro _ ⟨nq, rfl⟩
              gi_wp2
              exact ⟨⟨Nat.le_refl _, fun _ _ _ h _ => h⟩, ⟨Nat.le_refl _, fun _ _ h _ => h⟩, y, go', hrx.out, hwy.out, hX3.out.below (drewN_below _), Xn, X5, X6, g7, fun r hr => by have := g8 r hr; simpa using this, by simpa using g9⟩
            · have hlow2 : su' + mo' < sf' := by omega
              have hlow3 := Lib.hid hlow
              gi_wp2_with fail
              refine quiet_round (F := Fence.wide) rfl (by kernel_rfl) (by kernel_rfl) (by kernel_rfl) ?_
              repeat (gi_big_quiet_step (fail))
              refine wpQuietIn_nil ?_
              rintro _ ⟨nq, rfl⟩
              gi_wp2_with fail
              have hX4 := Lib.hid (hX3.out.below (drewN_below nq))
              have hXs := Lib.hid ((hX4.out.sum g2.s hfn (su' + mo')).cnt g2.c (v := f'') (by omega) (cu + 1))
              have zu := kept1 su (drewN_below nq)
              have zf := kept1 sf (drewN_below nq)
              have z0 := kept1 q0 (drewN_below nq)
              have z1 := kept1 q1 (drewN_below nq)
              have z2 := kept1 q2 (drewN_below nq)
              have zn := kept1 Xn (drewN_below nq)
              have z5 := kept1 X5 (drewN_below nq)
              have z6 := kept1 X6 (drewN_below nq)
              have zr := kept1 r1 (drewN_below nq)
              have zc : (X.drewN nq).cell? ⟨w.heap.size + 1 + 1 + 1 + 1 + 1, u, none⟩ = some (.int .i64 (y.c.getD u 0)) := hX4.out.ct.cell (by omega)
              have zd : (X.drewN nq).cell? ⟨w.heap.size + 1 + 1 + 1 + 1 + 1, f'', none⟩ = some (.int .i64 (y.c.getD f'' 0)) := hX4.out.ct.cell (by omega)
              have fd : (X.drewN nq).frozen? ⟨w.heap.size + 1 + 1 + 1 + 1 + 1, f'', none⟩ = false := hX4.out.ct.frozen f''
              have ff : (X.drewN nq).frozen? ⟨sb, f'', none⟩ = false := by obtain ⟨_, h, _⟩ := hX4.out.sm; exact h.frozen f''
              rw [hcu] at zc
              have i1 : (0 : Int) ≤ (f'' : Int) := by omega
              have i2 : (f'' : Int) < (n : Int) := by omega
              have i3 : (u : Int) < (n : Int) := by omega
              have i4 : (f'' : Int) < 60 := by omega
              clear su sf q0 q1 q2 Xn X5 X6 r1
              have kk : Hid (KeepsOthers X (X.drewN nq)) := Lib.hid ⟨Nat.le_refl _, fun _ _ h _ => h⟩
              generalize X.drewN nq = Z at *
              -- REGION 18
              have hsbS := hX4.out.hsb
              have w1 : IntKind.i64.wrap (su' + mo') = su' + mo' := wrap_ok (by omega) (by omega)
              have w2' : IntKind.i64.wrap (cu + 1) = cu + 1 := wrap_ok (by omega) (by omega)
              refine reg18 (fun ⟨_, _, h⟩ => h) (fun _ _ _ _ _ h => h) i1 i2 i3 i4 u0 u6 w1 w2' (by omega) (by omega) (by omega) (by omega) (by omega) (by omega) (by omega) z0 z2 zn zr zu zc zf zd ff fd ?_
              intro v52 v53 v54 v55 v56 v57 v58 v59 v60 v61 v62 v63 v64 v65 v66 v67 v68 v69
              have hX5 := Lib.hid (hXs.out.below ((Below.refl _ _).drew))
              have kk5 : Hid (KeepsOthers X (((Z.setCell ⟨sb, f'', none⟩ (.int .i64 (su' + mo'))).setCell ⟨w.heap.size + 1 + 1 + 1 + 1 + 1, f'', none⟩ (.int .i64 (cu + 1))).drew)) := Lib.hid (kk.out.trans ((KeepsOthers.setCell _ _ _).trans ((KeepsOthers.setCell _ _ _).trans (KeepsOthers.drew _))))
              have hX2o := hX2.out
              have y0 : (((Z.setCell ⟨sb, f'', none⟩ (.int .i64 (su' + mo'))).setCell ⟨w.heap.size + 1 + 1 + 1 + 1 + 1, f'', none⟩ (.int .i64 (cu + 1))).drew).cell? ⟨bb, 0, none⟩ = some (.int .i64 (f'' : Int)) := cell_set_ne (W := Z.setCell _ _) (cell_set_ne (W := Z) z0 (by simp; omega)) (by simp; omega)
              have yn : (((Z.setCell ⟨sb, f'', none⟩ (.int .i64 (su' + mo'))).setCell ⟨w.heap.size + 1 + 1 + 1 + 1 + 1, f'', none⟩ (.int .i64 (cu + 1))).drew).cell? ⟨nb, 0, none⟩ = some (.int .i64 (u : Int)) := cell_set_ne (W := Z.setCell _ _) (cell_set_ne (W := Z) zn (by simp; omega)) (by simp; omega)
              have y5 : (((Z.setCell ⟨sb, f'', none⟩ (.int .i64 (su' + mo'))).setCell ⟨w.heap.size + 1 + 1 + 1 + 1 + 1, f'', none⟩ (.int .i64 (cu + 1))).drew).cell? ⟨X2.heap.size, 0, none⟩ = some (.pointer (some ⟨gb, 0, none⟩)) := cell_set_ne (W := Z.setCell _ _) (cell_set_ne (W := Z) z5 (by simp; omega)) (by simp; omega)
              have y6 : (((Z.setCell ⟨sb, f'', none⟩ (.int .i64 (su' + mo'))).setCell ⟨w.heap.size + 1 + 1 + 1 + 1 + 1, f'', none⟩ (.int .i64 (cu + 1))).drew).cell? ⟨X2.heap.size + 1, 0, none⟩ = some (.int .i64 (u : Int)) := cell_set_ne (W := Z.setCell _ _) (cell_set_ne (W := Z) z6 (by simp; omega)) (by simp; omega)
              clear hXs zu zf z0 z1 z2 zn z5 z6 zr zc zd fd ff hX4 hX3 hX2o kk
              generalize (((Z.setCell ⟨sb, f'', none⟩ (.int .i64 (su' + mo'))).setCell ⟨w.heap.size + 1 + 1 + 1 + 1 + 1, f'', none⟩ (.int .i64 (cu + 1))).drew) = Z5 at *
              have yc : Z5.cell? ⟨w.heap.size + 1 + 1 + 1 + 1 + 1, f'', none⟩ = some (.int .i64 (cu + 1)) := by
                have h := hX5.out.ct.cell (i := f'') (by omega)
                have hc60 := g2.c
                rw [Ch.set_same (l := y.c) (i := f'') (by omega)] at h
                exact h
              have yb := hX5.out.b0.cell (i := 0) (by omega)
              have yg : Z5.cell? ⟨gb, 0, none⟩ = some (.int .i64 (n : Int)) := (G.out.below (hX5.out.bt.below G.out.hH (fun k hk => by omega))).g.cell (i := 0) (by omega)
              gi_wp2_with fail
              refine quiet_round (F := Fence.wide) rfl (by kernel_rfl) (by kernel_rfl) (by kernel_rfl) ?_
              repeat (gi_big_quiet_step (fail))
              refine wpQuietIn_nil ?_
              rintro _ ⟨nq, rfl⟩
              have hX6 := Lib.hid (hX5.out.below (drewN_below nq))
              have kk6 : Hid (KeepsOthers X (Z5.drewN nq)) := Lib.hid (kk5.out.trans ⟨Nat.le_refl _, fun _ _ h _ => h⟩)
              have x0 := kept1 y0 (drewN_below nq)
              have xn := kept1 yn (drewN_below nq)
              have x5 := kept1 y5 (drewN_below nq)
              have x6 := kept1 y6 (drewN_below nq)
              clear y0 yn y5 y6 yc yb yg hX5 kk5
              generalize Z5.drewN nq = Z6 at *
              have k2 : Z6.cell? ⟨w.heap.size + 1 + 1, 0, none⟩ = some (.bool false) := hX6.out.b2.cell (i := 0) (by omega)
              have f2 : Z6.frozen? ⟨w.heap.size + 1 + 1, 0, none⟩ = false := hX6.out.b2.frozen 0
              have lX2 := hX2.out
              by_cases hcn : cu + 1 = (n : Int)
              · have hrx : Hid (Ch.relaxAll n u (pre ++ [⟨(f'' : Int), (u : Int), mo'⟩]) { x with w := x.w.set u false, q := q } = none) := Lib.hid (by
                  rw [Ch.relaxAll_snoc, g1]
                  show Ch.relax n u _ y = none
                  unfold Ch.relax
                  rw [if_neg (by simp only [Int.toNat_natCast]; rw [hsu, hsf]; exact Int.not_le.2 hlow3.out), if_pos (by rw [hcu]; exact hcn)])
                clear g1 lX2
                gi_wp2_with fail
                exact ⟨(kk6.out.trans (KeepsOthers.setCell _ _ _)).from _, hrx.out, ⟨_, hX6.out.fin0 false⟩, fun r hr => by have := g8 r hr; simpa using this, by simpa using g9⟩
              · have kw : Z6.cell? ⟨w.heap.size + 1 + 1 + 1 + 1, f'', none⟩ = some (.bool (y.w.getD f'' false)) := hX6.out.wt.cell (by omega)
                have fw : Z6.frozen? ⟨w.heap.size + 1 + 1 + 1 + 1, f'', none⟩ = false := hX6.out.wt.frozen f''
                have e1 : Ch.relax n u ⟨(f'' : Int), (u : Int), mo'⟩ y = if y.w.getD f'' false then some { y with s := y.s.set f'' (su' + mo'), c := y.c.set f'' (cu + 1) } else some ⟨y.s.set f'' (su' + mo'), y.w.set f'' true, y.c.set f'' (cu + 1), y.q ++ [f'']⟩ := by
                  unfold Ch.relax
                  rw [if_neg (by simp only [Int.toNat_natCast]; rw [hsu, hsf]; exact Int.not_le.2 hlow3.out), if_neg (by rw [hcu]; exact hcn)]
                  simp only [Int.toNat_natCast]
                  rw [hsu, hcu]
                clear lX2
                by_cases hwt : y.w.getD f'' false = true
                · rw [if_pos hwt] at e1
                  rw [hwt] at kw
                  have hrx : Hid (Ch.relaxAll n u (pre ++ [⟨(f'' : Int), (u : Int), mo'⟩]) { x with w := x.w.set u false, q := q } = some { y with s := y.s.set f'' (su' + mo'), c := y.c.set f'' (cu + 1) }) := Lib.hid (by
                    rw [Ch.relaxAll_snoc, g1]
                    exact e1)
                  have hwf := Lib.hid (hwy.out.relax hun hokk.out e1)
                  clear e1 g1
                  gi_wp2_with fail
                  exact ⟨kk6.out.from _, kk6.out.walks, _, go', hrx.out, hwf.out, hX6.out, xn, x5, x6, g7, fun r hr => by have := g8 r hr; simpa using this, by simpa using g9⟩
                · have hwt2 : y.w.getD f'' false = false := by simpa using hwt
                  rw [if_neg hwt] at e1
                  rw [hwt2] at kw
                  have hrx : Hid (Ch.relaxAll n u (pre ++ [⟨(f'' : Int), (u : Int), mo'⟩]) { x with w := x.w.set u false, q := q } = some ⟨y.s.set f'' (su' + mo'), y.w.set f'' true, y.c.set f'' (cu + 1), y.q ++ [f'']⟩) := Lib.hid (by
                    rw [Ch.relaxAll_snoc, g1]
                    exact e1)
                  have hwf := Lib.hid (hwy.out.relax hun hokk.out e1)
                  have hX7 := Lib.hid (hX6.out.wait g2.w (v := f'') (by omega) true)
                  have kk7 := Lib.hid (kk6.out.trans (KeepsOthers.setCell Z6 ⟨w.heap.size + 4, f'', none⟩ (.bool true)))
                  have ql := g2.qlen
                  have v0 : (Z6.setCell ⟨w.heap.size + 4, f'', none⟩ (.bool true)).cell? ⟨bb, 0, none⟩ = some (.int .i64 (f'' : Int)) := cell_set_ne (W := Z6) x0 (by simp; omega)
                  have vn : (Z6.setCell ⟨w.heap.size + 4, f'', none⟩ (.bool true)).cell? ⟨nb, 0, none⟩ = some (.int .i64 (u : Int)) := cell_set_ne (W := Z6) xn (by simp; omega)
                  have hX2o := hX2.out
                  have v5 : (Z6.setCell ⟨w.heap.size + 4, f'', none⟩ (.bool true)).cell? ⟨X2.heap.size, 0, none⟩ = some (.pointer (some ⟨gb, 0, none⟩)) := cell_set_ne (W := Z6) x5 (by simp; omega)
                  have v6 : (Z6.setCell ⟨w.heap.size + 4, f'', none⟩ (.bool true)).cell? ⟨X2.heap.size + 1, 0, none⟩ = some (.int .i64 (u : Int)) := cell_set_ne (W := Z6) x6 (by simp; omega)
                  have lvn := Lib.hid (block_lt_of_cell vn)
                  have lv5 := Lib.hid (block_lt_of_cell v5)
                  have lv6 := Lib.hid (block_lt_of_cell v6)
                  clear e1 g1 hX2o
                  gi_wp2_with fail
                  refine ⟨trivial, ?_⟩
                  refine (CallsIn.inRound _ (callsIn_wide.2 (put_any _ go' (f'' : Int) (y.q.map fun u : Nat => (u : Int)) (by simp; omega) _ hX7.out.q))).mono ?_
                  rintro e w2 ⟨rfl, go2, hq2, hb2, hg2⟩
                  have H2 := Lib.hid (hX7.out.queue (q := y.q ++ [f'']) (by rw [List.map_append]; exact hq2) hb2 hg2)
                  have kk8 := Lib.hid (kk7.out.trans (hX7.out.put_others hb2))
                  have nX := hX2.out
                  have un := hb2.kept vn (by rintro (e | e); · (simp at e; omega)
                                             · exact (g7 _ e).1 rfl)
                  have u5 := hb2.kept v5 (by rintro (e | e); · (simp at e; omega)
                                             · exact (g7 _ e).2.1 rfl)
                  have u6 := hb2.kept v6 (by rintro (e | e); · (simp at e; omega)
                                             · exact (g7 _ e).2.2 rfl)
                  have g72 : ∀ g, go2 = some g → g ≠ nb ∧ g ≠ X2.heap.size ∧ g ≠ X2.heap.size + 1 := by
                    intro g e
                    rcases hg2 with hg2 | ⟨g', e2, h1, _⟩
                    · exact g7 g (by rw [← hg2]; exact e)
                    · rw [e] at e2
                      obtain rfl := Option.some.inj e2
                      have a1 := lvn.out
                      have a2 := lv5.out
                      have a3 := lv6.out
                      exact ⟨by rintro rfl; exact absurd a1 (Nat.not_lt.2 h1), by rintro rfl; exact absurd a2 (Nat.not_lt.2 h1), by rintro rfl; exact absurd a3 (Nat.not_lt.2 h1)⟩
                  clear hq2 hb2 hg2 nX v0 vn v5 v6
                  gi_wp2_with fail
                  exact ⟨kk8.out.from _, kk8.out.walks, _, go2, hrx.out, hwf.out, H2.out, un, u5, u6, g72, fun r hr => by have := g8 r hr; simpa using this, by simpa using g9⟩
          case done =>
            rintro E W hE ⟨y, go', g1, g2, g3, _, _, _, _, g8, g9⟩ hD
            have hne : E ∉ rs := fun hm => by have := g8 E hm; omega
            have HR' : Ch.settleGo n L drop (gk - 1) y = some R ∧ gk - 1 < gk := by
              have h := HR.out
              cases gk with
              | zero => simp [Ch.settleGo] at h
              | succ gk =>
                rw [Ch.settleGo, hq] at h
                simp only at h
                rw [← outs_into, g1] at h
                exact ⟨h, by omega⟩
            have HE := Lib.hid (g3.mark (E := E) (by omega) hD)
            refine hK.out _ _ (Handed.intro (gk - 1) HR'.2 (hJ.out _ _ _ ?_))
            exact ⟨_, _, _, _, _, _, _, _, _, _, _, _, _, _, _, _, _, _, _, _, _, _, _, _, _, _, _, _, _, _, _, _, _, _, _, _, _, _, _, _, _, _, _, _, _, _, _, _, _, _, _, _, _, _, _, _, _, _, _, _, _, _, _, _, _, _, y, go', E :: rs, ⟨Lib.hid g2, Lib.hid HR'.1, Lib.hid (List.nodup_cons.2 ⟨hne, HN.out⟩), HE⟩, rfl⟩
          case stop =>
            rintro E pre W hE ⟨post, hpost⟩ ⟨hn1, ⟨s', hf'⟩, g8, g9⟩ hD
            have hne : E ∉ rs := fun hm => by have := g8 E hm; omega
            have E0 : R = none := by
              have h := HR.out
              cases gk with
              | zero => simp [Ch.settleGo] at h
              | succ gk =>
                rw [Ch.settleGo, hq] at h
                simp only at h
                rw [← outs_into, ← hpost, Ch.relaxAll_none hn1] at h
                exact (Option.some.inj h).symm
            subst E0
            gi_wp2
            rw [← hQ0.out]
            exact settle_end_no (rs := E :: rs) (hf'.mark (by omega) hD) (List.nodup_cons.2 ⟨hne, HN.out⟩) rfl
end Go.Proofs.Ytkcchangkhklcaa

/- Contracts of package chain: levels, consistent. -/
namespace Go.Proofs.Ytkcchangkhklcaa
open Go.RowKit

/-- what levels leaves -/
def LvPost (w : World) (n : Nat) (R : Option (List Int)) (e : Ending) (w' : World) : Prop :=
  ∃ sb, w.heap.size ≤ sb ∧ Below w.heap.size w w' ∧ e = .returned (.tuple #[.slice (some ⟨sb, 0, none⟩) n n, .bool R.isSome]) ∧ ∀ s, R = some s → ∃ f, w'.rowIs sb 3 n f ∧ ∀ i, i < n → f i = .int .i64 (s.getD i 0)

theorem set_none {w w' : World} {sb N n : Nat} {R : Option (List Int)} {e : Ending} (h : SetPost w sb N n R e w') : But (fun k => k = sb) w w' ∧ e = .returned (.bool R.isSome) ∧ ∀ s, R = some s → ∃ f, w'.rowIs sb 3 N f ∧ ∀ i, i < n → f i = .int .i64 (s.getD i 0) := by
  obtain ⟨h1, h2⟩ := h
  refine ⟨h1, ?_⟩
  cases R with
  | none => exact ⟨h2, fun s hs => by cases hs⟩
  | some s => exact ⟨h2.1, fun s' hs => by cases hs; exact h2.2⟩

set_option maxRecDepth 100000 in
set_option maxHeartbeats 1000000 in
theorem levels_any (n gb : Nat) (n1 : 1 ≤ n) (n2 : n ≤ 60) (L : List Ch.Lk) (drop : List Bool) (fuel : Nat) (R : Option (List Int)) (hR : Hid (Ch.levels n L drop fuel = some R)) (H ib db m : Nat) (a : Option Addr) (cap0 : Nat) (V : Nat → Value) (w : World) (G : Hid (Gr w H gb ib db n m a cap0 V L (fun i => drop.getD i false))) :
    Calls Try.prog 56 #[.pointer (some ⟨gb, 0, none⟩)] w (LvPost w n R) := by
  obtain ⟨i0, hi, hz0, hz1, hz2⟩ := info_parts infoInt
  have hmk := run_make_row' (P := Try.prog) 32 3 (.int .i64 0) 8 Try.underlying32 infoInt rfl .i64 .i64 n (by omega) (by omega)
  have g0 : w.cell? ⟨gb, 0, none⟩ = some (.int .i64 n) := G.out.g.cell (i := 0) (by omega)
  go_enter Try.func56, Try.ntmps56
  go_wp2_with fail
  refine (settle_any n gb w.heap.size n n n1 n2 (Nat.le_refl _) (List.replicate n 0) (Lib.hid (by simp)) L drop fuel R hR H ib db m a cap0 V G.out.hH _ (Lib.hid (G.out.below ((Below.refl H w).alloc G.out.hH _))) (fun _ => .int .i64 0) (Lib.hid (World.rowIs_made w _ n _)) (Lib.hid fun i hi => by simp [List.getD, hi]) (Lib.hid fun i hi => by simp [List.getD, hi])).mono ?_
  rintro e w1 h
  obtain ⟨hb, rfl, hr⟩ := set_none h
  have hB : Below w.heap.size w w1 := (below_alloc (Below.refl _ _) _).trans (hb.below (B := w.heap.size) (by simp) (fun k hk => by omega))
  clear hb h hmk
  replace hr := Lib.hid hr
  go_wp2
  go_ret2
  exact ⟨w.heap.size, Nat.le_refl _, hB, rfl, hr.out⟩

set_option maxHeartbeats 1000000 in
theorem consistent_any (n gb : Nat) (n1 : 1 ≤ n) (n2 : n ≤ 60) (L : List Ch.Lk) (drop : List Bool) (fuel : Nat) (R : Option (List Int)) (hR : Hid (Ch.levels n L drop fuel = some R)) (H ib db m : Nat) (a : Option Addr) (cap0 : Nat) (V : Nat → Value) (w : World) (G : Hid (Gr w H gb ib db n m a cap0 V L (fun i => drop.getD i false))) :
    Calls Try.prog 47 #[.pointer (some ⟨gb, 0, none⟩)] w fun e w' => e = .returned (.bool R.isSome) ∧ Below w.heap.size w w' := by
  have HL := levels_any n gb n1 n2 L drop fuel R hR H ib db m a cap0 V w G
  clear G
  go_enter Try.func47, Try.ntmps47
  go_wp2_with fail
  refine HL.mono ?_
  rintro e w1 ⟨sb, h1, hB, rfl, _⟩
  go_wp2
  go_ret
  exact ⟨rfl, hB⟩
end Go.Proofs.Ytkcchangkhklcaa

/-
  DERIVED: THE SHELF's CONTRACTS AT THIS DUMP, IN PLAIN WORDS (tools/lay-plain.mjs out of 'TryShelf.lean', which tools/lay-shelf.mjs wrote): THE SAME DECLARATIONS UNDER THE SAME NAMES: 'import', 'namespace', 'open', 'def', 'theorem' AND NOTHING ELSE: no command of the shelf's: FOR A HAND-IN. Each laying: the table of numbers ('.._ren') and one theorem, a field a fact of the dump's own or the kernel's comparison; each contract: ONE APPLICATION.
-/
namespace Go.Proofs
open Go.Shelf
def Try.lays128_ren : Go.Shelf.Ren := ⟨fun | 128 => 110 | n => n, fun | 51 => 142 | 3 => 3 | 4 => 4 | 46 => 130 | 5 => 5 | 9 => 9 | n => n, fun | n => n⟩
theorem Try.lays128 : Go.Proofs.Lays.n128 Try.prog Try.lays128_ren := {
  mixed := by kernel_rfl
  f128 := Try.func110.trans (congrArg some (by kernel_rfl))
  t3 := Try.underlying3
  a3 := Try.isAgg3
  z3 := Try.sizeOf3
  v3 := Try.zeroValue3
  t4 := Try.underlying4
  a4 := Try.isAgg4
  z4 := Try.sizeOf4
  v4 := Try.zeroValue4
  t5 := Try.underlying5
  a5 := Try.isAgg5
  z5 := Try.sizeOf5
  v5 := Try.zeroValue5
  t9 := Try.underlying9
  a9 := Try.isAgg9
  z9 := Try.sizeOf9
  v9 := Try.zeroValue9
  t46 := Try.underlying130
  a46 := Try.isAgg130
  z46 := Try.sizeOf130
  v46 := Try.zeroValue130
  t51 := Try.underlying142
  a51 := Try.isAgg142
  z51 := Try.sizeOf142
  v51 := Try.zeroValue142 }
/-- bits.Len32: "Len32 returns the minimum number of bits required to represent x; the result is 0 for x == 0.": IT RETURNS 'Lib.bitLen x'; the world is as it was. ('h0', 'h1': x is a uint32.) (LAID: no walk: one application.) -/
theorem Try.bits_Len32 (x : Int) (w : World) (h0 : 0 ≤ x) (h1 : x ≤ 4294967295) :
    Calls Try.prog 110 #[.int .u32 x] w fun e w' => e = .returned (.int .i64 (Lib.bitLen x.toNat)) ∧ w' = w := Any.bits_Len32 Try.lays128 x w h0 h1
def Try.lays125_ren : Go.Shelf.Ren := ⟨fun | 125 => 97 | 128 => 110 | 129 => 111 | n => n, fun | 46 => 130 | 3 => 3 | 51 => 142 | 53 => 144 | 4 => 4 | 5 => 5 | 9 => 9 | n => n, fun | n => n⟩
theorem Try.lays125 : Go.Proofs.Lays.n125 Try.prog Try.lays125_ren := {
  mixed := by kernel_rfl
  f125 := Try.func97.trans (congrArg some (by kernel_rfl))
  f128 := Try.func110.trans (congrArg some (by kernel_rfl))
  f129 := Try.func111.trans (congrArg some (by kernel_rfl))
  t3 := Try.underlying3
  a3 := Try.isAgg3
  z3 := Try.sizeOf3
  v3 := Try.zeroValue3
  t4 := Try.underlying4
  a4 := Try.isAgg4
  z4 := Try.sizeOf4
  v4 := Try.zeroValue4
  t5 := Try.underlying5
  a5 := Try.isAgg5
  z5 := Try.sizeOf5
  v5 := Try.zeroValue5
  t9 := Try.underlying9
  a9 := Try.isAgg9
  z9 := Try.sizeOf9
  v9 := Try.zeroValue9
  t46 := Try.underlying130
  a46 := Try.isAgg130
  z46 := Try.sizeOf130
  v46 := Try.zeroValue130
  t51 := Try.underlying142
  a51 := Try.isAgg142
  z51 := Try.sizeOf142
  v51 := Try.zeroValue142
  t53 := Try.underlying144
  a53 := Try.isAgg144
  z53 := Try.sizeOf144
  v53 := Try.zeroValue144 }
/-- bits.Len: "Len returns the minimum number of bits required to represent x; the result is 0 for x == 0.": IT RETURNS 'Lib.bitLen x'; the world is as it was. (A uint has 64 bits in the model.) ITS CALLEE bits.Len64 IS MET BY ITS OWN CONTRACT OFF THE SHELF (lay that first). (LAID: no walk: one application.) -/
theorem Try.bits_Len (x : Int) (w : World) (h0 : 0 ≤ x) (h1 : x ≤ 18446744073709551615) :
    Calls Try.prog 97 #[.int .u64 x] w fun e w' => e = .returned (.int .i64 (Lib.bitLen x.toNat)) ∧ w' = w := Any.bits_Len Try.lays125 x w h0 h1
def Try.lays215_ren : Go.Shelf.Ren := ⟨fun | 215 => 98 | n => n, fun | 3 => 3 | 4 => 4 | n => n, fun | n => n⟩
theorem Try.lays215 : Go.Proofs.Lays.n215 Try.prog Try.lays215_ren := {
  mixed := by kernel_rfl
  f215 := Try.func98.trans (congrArg some (by kernel_rfl))
  t3 := Try.underlying3
  a3 := Try.isAgg3
  z3 := Try.sizeOf3
  v3 := Try.zeroValue3
  t4 := Try.underlying4
  a4 := Try.isAgg4
  z4 := Try.sizeOf4
  v4 := Try.zeroValue4 }
open Go.RowKit in
/-- cmp.isNaN at int: 'x != x': false. (LAID: no walk: one application.) -/
theorem Try.cmp_isNaN_int (x : Int) (w : World) :
    Calls Try.prog 98 #[.int .i64 x] w fun e w' => e = .returned (.bool false) ∧ w' = w := Any.cmp_isNaN_int Try.lays215 x w
def Try.lays122_ren : Go.Shelf.Ren := ⟨fun | 122 => 89 | 215 => 98 | n => n, fun | 3 => 3 | 4 => 4 | n => n, fun | n => n⟩
theorem Try.lays122 : Go.Proofs.Lays.n122 Try.prog Try.lays122_ren := {
  mixed := by kernel_rfl
  f122 := Try.func89.trans (congrArg some (by kernel_rfl))
  f215 := Try.func98.trans (congrArg some (by kernel_rfl))
  t3 := Try.underlying3
  a3 := Try.isAgg3
  z3 := Try.sizeOf3
  v3 := Try.zeroValue3
  t4 := Try.underlying4
  a4 := Try.isAgg4
  z4 := Try.sizeOf4
  v4 := Try.zeroValue4 }
open Go.RowKit in
/-- cmp.Compare at int: "Compare returns -1 if x is less than y, 0 if x equals y, +1 if x is greater than y.": IT RETURNS 'Lib.compareInt x y'; the world is as it was. (LAID: no walk: one application.) -/
theorem Try.cmp_Compare_int (x y : Int) (w : World) :
    Calls Try.prog 89 #[.int .i64 x, .int .i64 y] w fun e w' => e = .returned (.int .i64 (Lib.compareInt x y)) ∧ w' = w := Any.cmp_Compare_int Try.lays122 x y w
def Try.lays129_ren : Go.Shelf.Ren := ⟨fun | 129 => 111 | n => n, fun | 53 => 144 | 3 => 3 | 4 => 4 | 46 => 130 | 5 => 5 | 9 => 9 | n => n, fun | n => n⟩
theorem Try.lays129 : Go.Proofs.Lays.n129 Try.prog Try.lays129_ren := {
  mixed := by kernel_rfl
  f129 := Try.func111.trans (congrArg some (by kernel_rfl))
  t3 := Try.underlying3
  a3 := Try.isAgg3
  z3 := Try.sizeOf3
  v3 := Try.zeroValue3
  t4 := Try.underlying4
  a4 := Try.isAgg4
  z4 := Try.sizeOf4
  v4 := Try.zeroValue4
  t5 := Try.underlying5
  a5 := Try.isAgg5
  z5 := Try.sizeOf5
  v5 := Try.zeroValue5
  t9 := Try.underlying9
  a9 := Try.isAgg9
  z9 := Try.sizeOf9
  v9 := Try.zeroValue9
  t46 := Try.underlying130
  a46 := Try.isAgg130
  z46 := Try.sizeOf130
  v46 := Try.zeroValue130
  t53 := Try.underlying144
  a53 := Try.isAgg144
  z53 := Try.sizeOf144
  v53 := Try.zeroValue144 }
/-- bits.Len64: "Len64 returns the minimum number of bits required to represent x; the result is 0 for x == 0.": IT RETURNS 'Lib.bitLen x'; the world is as it was. ('h0', 'h1': x is a uint64.) (LAID: no walk: one application.) -/
theorem Try.bits_Len64 (x : Int) (w : World) (h0 : 0 ≤ x) (h1 : x ≤ 18446744073709551615) :
    Calls Try.prog 111 #[.int .u64 x] w fun e w' => e = .returned (.int .i64 (Lib.bitLen x.toNat)) ∧ w' = w := Any.bits_Len64 Try.lays129 x w h0 h1
def Try.lays189_ren : Go.Shelf.Ren := ⟨fun | 189 => 84 | 125 => 97 | 257 => 96 | 128 => 110 | 129 => 111 | 294 => 101 | 295 => 102 | 296 => 103 | 297 => 104 | 298 => 105 | 299 => 106 | 216 => 107 | 300 => 108 | 301 => 109 | 328 => 114 | 329 => 115 | 330 => 116 | 331 => 117 | 332 => 118 | 215 => 98 | 343 => 119 | n => n, fun | 28 => 32 | 3 => 3 | 46 => 130 | 0 => 0 | 51 => 142 | 53 => 144 | 4 => 4 | 183 => 136 | 182 => 135 | 131 => 100 | 5 => 5 | 9 => 9 | 218 => 149 | 222 => 153 | 228 => 155 | 229 => 156 | n => n, fun | n => n⟩
theorem Try.lays189 : Go.Proofs.Lays.n189 Try.prog Try.lays189_ren := {
  mixed := by kernel_rfl
  f125 := Try.func97.trans (congrArg some (by kernel_rfl))
  f128 := Try.func110.trans (congrArg some (by kernel_rfl))
  f129 := Try.func111.trans (congrArg some (by kernel_rfl))
  f189 := Try.func84.trans (congrArg some (by kernel_rfl))
  f215 := Try.func98.trans (congrArg some (by kernel_rfl))
  f216 := Try.func107.trans (congrArg some (by kernel_rfl))
  f257 := Try.func96.trans (congrArg some (by kernel_rfl))
  f294 := Try.func101.trans (congrArg some (by kernel_rfl))
  f295 := Try.func102.trans (congrArg some (by kernel_rfl))
  f296 := Try.func103.trans (congrArg some (by kernel_rfl))
  f297 := Try.func104.trans (congrArg some (by kernel_rfl))
  f298 := Try.func105.trans (congrArg some (by kernel_rfl))
  f299 := Try.func106.trans (congrArg some (by kernel_rfl))
  f300 := Try.func108.trans (congrArg some (by kernel_rfl))
  f301 := Try.func109.trans (congrArg some (by kernel_rfl))
  f328 := Try.func114.trans (congrArg some (by kernel_rfl))
  f329 := Try.func115.trans (congrArg some (by kernel_rfl))
  f330 := Try.func116.trans (congrArg some (by kernel_rfl))
  f331 := Try.func117.trans (congrArg some (by kernel_rfl))
  f332 := Try.func118.trans (congrArg some (by kernel_rfl))
  f343 := Try.func119.trans (congrArg some (by kernel_rfl))
  t0 := Try.underlying0
  a0 := Try.isAgg0
  z0 := Try.sizeOf0
  v0 := Try.zeroValue0
  t3 := Try.underlying3
  a3 := Try.isAgg3
  z3 := Try.sizeOf3
  v3 := Try.zeroValue3
  t4 := Try.underlying4
  a4 := Try.isAgg4
  z4 := Try.sizeOf4
  v4 := Try.zeroValue4
  t5 := Try.underlying5
  a5 := Try.isAgg5
  z5 := Try.sizeOf5
  v5 := Try.zeroValue5
  t9 := Try.underlying9
  a9 := Try.isAgg9
  z9 := Try.sizeOf9
  v9 := Try.zeroValue9
  t28 := Try.underlying32
  a28 := Try.isAgg32
  z28 := Try.sizeOf32
  v28 := Try.zeroValue32
  t46 := Try.underlying130
  a46 := Try.isAgg130
  z46 := Try.sizeOf130
  v46 := Try.zeroValue130
  t51 := Try.underlying142
  a51 := Try.isAgg142
  z51 := Try.sizeOf142
  v51 := Try.zeroValue142
  t53 := Try.underlying144
  a53 := Try.isAgg144
  z53 := Try.sizeOf144
  v53 := Try.zeroValue144
  t131 := Try.underlying100
  a131 := Try.isAgg100
  z131 := Try.sizeOf100
  v131 := Try.zeroValue100
  t182 := Try.underlying135
  a182 := Try.isAgg135
  z182 := Try.sizeOf135
  v182 := Try.zeroValue135
  t183 := Try.underlying136
  a183 := Try.isAgg136
  z183 := Try.sizeOf136
  v183 := Try.zeroValue136
  t218 := Try.underlying149
  a218 := Try.isAgg149
  z218 := Try.sizeOf149
  v218 := Try.zeroValue149
  t222 := Try.underlying153
  a222 := Try.isAgg153
  z222 := Try.sizeOf153
  v222 := Try.zeroValue153
  t228 := Try.underlying155
  a228 := Try.isAgg155
  z228 := Try.sizeOf155
  v228 := Try.zeroValue155
  t229 := Try.underlying156
  a229 := Try.isAgg156
  z229 := Try.sizeOf156
  v229 := Try.zeroValue156 }
open Go.Sort Go.RowKit in
theorem Try.slices_Sort_int (blk off cap : Nat) (zs : List Int) (w : World) (hH : Holds (Value.int .i64) w blk off zs.toArray) (hblk : blk < w.heap.size) (hsz : zs.length < 4611686018427387904) :
    Calls Try.prog 84 #[.slice (some ⟨blk, off, none⟩) zs.length cap] w fun e w' =>
      e = .returned (.tuple #[]) ∧ ∃ n os, w' = grow (putRow (Value.int .i64) (Sort.ahead w n) blk off (zs.mergeSort fun x y => decide (x ≤ y)).toArray) os := Any.slices_Sort_int Try.lays189 blk off cap zs w hH hblk hsz
def Try.lays264_ren : Go.Shelf.Ren := ⟨fun | 264 => 113 | n => n, fun | 53 => 144 | 46 => 130 | n => n, fun | n => n⟩
theorem Try.lays264 : Go.Proofs.Lays.n264 Try.prog Try.lays264_ren := {
  mixed := by kernel_rfl
  f264 := Try.func113.trans (congrArg some (by kernel_rfl))
  t46 := Try.underlying130
  a46 := Try.isAgg130
  z46 := Try.sizeOf130
  v46 := Try.zeroValue130
  t53 := Try.underlying144
  a53 := Try.isAgg144
  z53 := Try.sizeOf144
  v53 := Try.zeroValue144 }
open Go.RowKit Go.Lib in
theorem Try.bits_Mul64 (x y : Nat) (hx : x < 18446744073709551616) (hy : y < 18446744073709551616) (w : World) :
    Calls Try.prog 113 #[.int .u64 x, .int .u64 y] w fun e w' => e = .returned (.tuple #[.int .u64 ((x * y / 18446744073709551616 : Nat) : Int), .int .u64 ((x * y % 18446744073709551616 : Nat) : Int)]) ∧ w' = w := Any.bits_Mul64 Try.lays264 x y hx hy w
def Try.lays212_ren : Go.Shelf.Ren := ⟨fun | 212 => 99 | 263 => 112 | 264 => 113 | n => n, fun | 46 => 130 | 51 => 142 | 146 => 145 | 53 => 144 | 148 => 147 | n => n, fun | n => n⟩
theorem Try.lays212 : Go.Proofs.Lays.n212 Try.prog Try.lays212_ren := {
  mixed := by kernel_rfl
  f212 := Try.func99.trans (congrArg some (by kernel_rfl))
  f263 := Try.func112.trans (congrArg some (by kernel_rfl))
  f264 := Try.func113.trans (congrArg some (by kernel_rfl))
  t46 := Try.underlying130
  a46 := Try.isAgg130
  z46 := Try.sizeOf130
  v46 := Try.zeroValue130
  t51 := Try.underlying142
  a51 := Try.isAgg142
  z51 := Try.sizeOf142
  v51 := Try.zeroValue142
  t53 := Try.underlying144
  a53 := Try.isAgg144
  z53 := Try.sizeOf144
  v53 := Try.zeroValue144
  t146 := Try.underlying145
  a146 := Try.isAgg145
  z146 := Try.sizeOf145
  v146 := Try.zeroValue145
  t148 := Try.underlying147
  a148 := Try.isAgg147
  z148 := Try.sizeOf147
  v148 := Try.zeroValue147 }
open Go.RowKit Go.Lib in
/-- math/bits.Mul: "Mul returns the full-width product of x and y": on a machine of 64 bits: Mul64's. (LAID: no walk: one application.) -/
theorem Try.bits_Mul (x y : Nat) (hx : x < 18446744073709551616) (hy : y < 18446744073709551616) (w : World) :
    Calls Try.prog 99 #[.int .u64 x, .int .u64 y] w fun e w' => e = .returned (.tuple #[.int .u64 ((x * y / 18446744073709551616 : Nat) : Int), .int .u64 ((x * y % 18446744073709551616 : Nat) : Int)]) ∧ w' = w := Any.bits_Mul Try.lays212 x y hx hy w
def Try.laysNm237_ren : Go.Shelf.Ren := ⟨fun | 37 => 98 | n => n, fun | 3 => 3 | 4 => 4 | n => n, fun | n => n⟩
theorem Try.laysNm237 : Go.Proofs.Lays2.n37 Try.prog Try.laysNm237_ren := {
  mixed := by kernel_rfl
  f37 := Try.func98.trans (congrArg some (by kernel_rfl))
  t3 := Try.underlying3
  a3 := Try.isAgg3
  z3 := Try.sizeOf3
  v3 := Try.zeroValue3
  t4 := Try.underlying4
  a4 := Try.isAgg4
  z4 := Try.sizeOf4
  v4 := Try.zeroValue4 }
open Go.RowKit Go.Lib in
/-- cmp.isNaN[int]: 'x != x': false. (LAID: no walk: one application.) -/
theorem Try.cmp_isNaN_int2 (x : Int) (w : World) :
    Calls Try.prog 98 #[.int .i64 x] w fun e w' => e = .returned (.bool false) ∧ w' = w := Any.cmp_isNaN_int2 Try.laysNm237 x w
def Try.laysNm231_ren : Go.Shelf.Ren := ⟨fun | 31 => 107 | 37 => 98 | n => n, fun | 3 => 3 | 4 => 4 | n => n, fun | n => n⟩
theorem Try.laysNm231 : Go.Proofs.Lays2.n31 Try.prog Try.laysNm231_ren := {
  mixed := by kernel_rfl
  f31 := Try.func107.trans (congrArg some (by kernel_rfl))
  f37 := Try.func98.trans (congrArg some (by kernel_rfl))
  t3 := Try.underlying3
  a3 := Try.isAgg3
  z3 := Try.sizeOf3
  v3 := Try.zeroValue3
  t4 := Try.underlying4
  a4 := Try.isAgg4
  z4 := Try.sizeOf4
  v4 := Try.zeroValue4 }
open Go.RowKit Go.Lib in
/-- cmp.Less[int]: "Less reports whether x is less than y.": 'x < y'; the world is as it was. (LAID: no walk: one application.) -/
theorem Try.cmp_Less_int2 (x y : Int) (w : World) :
    Calls Try.prog 107 #[.int .i64 x, .int .i64 y] w fun e w' => e = .returned (.bool (decide (x < y))) ∧ w' = w := Any.cmp_Less_int2 Try.laysNm231 x y w
open Go.RowKit Go.Sort in
/-- .. and plain. (LAID: no walk: one application.) -/
theorem Try.slices_Sort_int_none (p : Option Addr) (cap : Nat) (w : World) :
    Calls Try.prog 84 #[.slice p 0 cap] w fun e w' => e = .returned (.tuple #[]) ∧ w' = w := Any.slices_Sort_int_none Try.lays189 p cap w
def Try.sorted61_ren : Go.Shelf.Ren := ⟨fun | 6 => 61 | 8 => 83 | 9 => 84 | 11 => 95 | 13 => 97 | 12 => 96 | 23 => 110 | 24 => 111 | 14 => 101 | 15 => 102 | 16 => 103 | 17 => 104 | 18 => 105 | 19 => 106 | 20 => 107 | 21 => 108 | 22 => 109 | 25 => 114 | 26 => 115 | 27 => 116 | 28 => 117 | 29 => 118 | 30 => 98 | 31 => 119 | n => n, fun | 26 => 3 | 28 => 88 | 24 => 32 | 0 => 0 | 3 => 3 | 37 => 130 | 48 => 142 | 50 => 144 | 4 => 4 | 40 => 136 | 39 => 135 | 45 => 100 | 5 => 5 | 9 => 9 | 51 => 149 | 55 => 153 | 57 => 155 | 58 => 156 | 33 => 90 | n => n, fun | n => n⟩
theorem Try.sorted61 : Go.Proofs.SlLaysZI.n6 Try.prog Try.sorted61_ren := {
  mixed := by kernel_rfl
  f6 := ⟨Try.f61.name, by decide, Try.func61.trans (congrArg some (by kernel_rfl))⟩
  f8 := ⟨Try.f83.name, by decide, Try.func83.trans (congrArg some (by kernel_rfl))⟩
  f11 := ⟨Try.f95.name, by decide, Try.func95.trans (congrArg some (by kernel_rfl))⟩
  t0 := Try.underlying0
  a0 := Try.isAgg0
  z0 := Try.sizeOf0
  v0 := Try.zeroValue0
  t24 := Try.underlying32
  a24 := Try.isAgg32
  z24 := Try.sizeOf32
  v24 := Try.zeroValue32
  t26 := Try.underlying3
  a26 := Try.isAgg3
  z26 := Try.sizeOf3
  v26 := Try.zeroValue3
  t28 := Try.underlying88
  a28 := Try.isAgg88
  z28 := Try.sizeOf88
  v28 := Try.zeroValue88
  i26 := by kernel_rfl }
def Try.grow88_ren : Go.Shelf.Ren := ⟨fun | 4 => 88 | n => n, fun | 22 => 22 | 25 => 58 | 3 => 3 | 4 => 4 | 9 => 9 | 20 => 20 | 0 => 0 | n => n, fun | n => n⟩
theorem Try.grow88 : Go.Proofs.Lays8.n4 Try.prog Try.grow88_ren := {
  mixed := by kernel_rfl
  f4 := ⟨Try.f88.name, by decide, Try.func88.trans (congrArg some (by kernel_rfl))⟩
  t0 := Try.underlying0
  a0 := Try.isAgg0
  z0 := Try.sizeOf0
  v0 := Try.zeroValue0
  t3 := Try.underlying3
  a3 := Try.isAgg3
  z3 := Try.sizeOf3
  v3 := Try.zeroValue3
  t4 := Try.underlying4
  a4 := Try.isAgg4
  z4 := Try.sizeOf4
  v4 := Try.zeroValue4
  t9 := Try.underlying9
  a9 := Try.isAgg9
  z9 := Try.sizeOf9
  v9 := Try.zeroValue9
  t20 := Try.underlying20
  a20 := Try.isAgg20
  z20 := Try.sizeOf20
  v20 := Try.zeroValue20
  t22 := Try.underlying22
  a22 := Try.isAgg22
  z22 := Try.sizeOf22
  v22 := Try.zeroValue22 }
end Go.Proofs

/- Contracts of package chain: slices.Repeat of one number, unbound, boundsTo. -/
namespace Go.Proofs.Ytkcchangkhklcaa
open Go.RowKit

/-- z laid n times, the rest 0 -/
def rep (z : Int) (n c : Nat) : List Value := List.replicate n (.int .i64 z) ++ List.replicate (c - n) (.int .i64 0)
theorem rep_len {z : Int} {n c : Nat} (hnc : n ≤ c) : (rep z n c).length = c := by simp [rep]; omega
theorem rep_splice {z : Int} {n k c : Nat} (h : n + k ≤ c) : splice (rep z n c) n (List.replicate k (.int .i64 z)) = rep z (n + k) c := by
  have e1 : (rep z n c).take n = List.replicate n (.int .i64 z) := by unfold rep; rw [List.take_append_of_le_length (by simp), List.take_of_length_le (by simp)]
  have e2 : (rep z n c).drop (n + k) = List.replicate (c - (n + k)) (.int .i64 0) := by
    unfold rep
    rw [List.drop_append, List.drop_of_length_le (by simp), List.nil_append, List.drop_replicate]
    congr 1
    simp
    omega
  unfold splice
  rw [List.length_replicate, e1, e2, ← List.append_assoc, List.replicate_append_replicate]
  rfl
theorem rep_get {z : Int} {n c i : Nat} (h : i < n) : (rep z n c)[i]? = some (.int .i64 z) := by
  unfold rep
  rw [List.getElem?_append_left (by simpa using h), List.getElem?_replicate, if_pos h]
theorem rep_zero (z : Int) (c : Nat) : rep z 0 c = List.replicate c (.int .i64 0) := by simp [rep]

theorem rep_made (w : World) (z : Int) (c : Nat) : (w.alloc (Obj.cells (madeCells #[.int .i64 0] c) 3)).heap[w.heap.size]? = some (.cells (rep z 0 c).toArray 3 (0, 0)) := by
  obtain ⟨cur, hg, hs, hc⟩ := World.rowIs_made w (.int .i64 0) c 3
  rw [hg]
  have e : cur = (rep z 0 c).toArray := by
    rw [rep_zero]
    refine Array.ext (by simp [hs]) fun i h1 h2 => ?_
    have := hc i (by omega)
    rw [Array.getElem?_eq_getElem h1] at this
    simpa using this
  rw [e]

/-- what Repeat leaves -/
def RepPost (w : World) (c : Nat) (z : Int) (e : Ending) (w' : World) : Prop :=
  ∃ sb, w.heap.size ≤ sb ∧ e = .returned (.slice (some ⟨sb, 0, none⟩) c c) ∧ w'.rowIs sb 3 c (fun _ => .int .i64 z) ∧ Below w.heap.size w w'

theorem rep_end {W : World} {sb c : Nat} {z : Int} (h : W.heap[sb]? = some (.cells (rep z c c).toArray 3 (0, 0))) : W.rowIs sb 3 c (fun _ => .int .i64 z) := by
  refine ⟨_, h, by simp [rep_len], fun i hi => ?_⟩
  rw [List.getElem?_toArray]
  exact rep_get hi

theorem rep_cell {W : World} {sb k c q j : Nat} {z : Int} {v : Value} (hg : W.heap[sb]? = some (.cells (rep z k c).toArray 3 (0, 0))) (hq : q ≤ k) (h : (List.replicate q (Value.int .i64 z))[j]? = some v) : W.cell? ((⟨sb, 0, none⟩ : Addr).add j) = some v := by
  rw [List.getElem?_replicate] at h
  split at h
  · rename_i hj
    cases h
    have e : (⟨sb, 0, none⟩ : Addr).add j = ⟨sb, j, none⟩ := by unfold Addr.add; split <;> simp_all
    rw [e]
    simp [World.cell?, hg]
    exact rep_get (by omega)
  · cases h

set_option maxRecDepth 100000 in
set_option maxHeartbeats 2000000 in
theorem repeat_any (c : Nat) (c1 : 1 ≤ c) (c2 : c ≤ 60) (z : Int) (xb : Nat) (w : World) (hx : w.cell? ⟨xb, 0, none⟩ = some (.int .i64 z)) :
    Calls Try.prog 90 #[.slice (some ⟨xb, 0, none⟩) 1 1, .int .i64 c] w (RepPost w c z) := by
  obtain ⟨i0, hi, hz0, hz1, hz2⟩ := info_parts infoInt
  have hmk := run_make_row' (P := Try.prog) 32 3 (.int .i64 0) 8 Try.underlying32 infoInt rfl .i64 .i64 c (by omega) (by omega)
  have HM : Hid (∀ W, Calls Try.prog 99 #[.int .u64 1, .int .u64 c] W fun e w' => e = .returned (.tuple #[.int .u64 0, .int .u64 (c : Int)]) ∧ w' = W) := Lib.hid fun W => by
    have h := Try.bits_Mul 1 c (by omega) (by omega) W
    rw [Nat.one_mul, Nat.div_eq_of_lt (by omega), Nat.mod_eq_of_lt (by omega)] at h
    exact h
  have hc0 : ¬ (c : Int) < 0 := by omega
  go_enter Try.func90, Try.ntmps90
  go_wp2_with fail
  refine (HM.out _).mono ?_
  rintro e w1 ⟨rfl, hw⟩
  subst hw
  clear HM
  have hc9 : decide ((9223372036854775807 : Int) < (c : Int)) = false := decide_eq_false (by omega)
  have hsz : (Try.prog.info? 3).map (·.size) = some 1 := by rw [hi]; simp [hz1]
  have hg := rep_made w1 z c
  have hX : (w1.alloc (Obj.cells (madeCells #[.int .i64 0] c) 3)).cell? ⟨xb, 0, none⟩ = some (.int .i64 z) := cell_alloc hx _
  have hB : Below w1.heap.size w1 (w1.alloc (Obj.cells (madeCells #[.int .i64 0] c) 3)) := below_alloc (Below.refl _ _) _
  have hn1 : (List.replicate 1 (Value.int .i64 z)).length = Nat.min 1 c := by rw [List.length_replicate]; exact (Nat.min_eq_left c1).symm
  have hs1 : ∀ (j : Nat) (v : Value), (List.replicate 1 (Value.int .i64 z))[j]? = some v → (w1.alloc (Obj.cells (madeCells #[.int .i64 0] c) 3)).cell? ((⟨xb, 0, none⟩ : Addr).add j) = some v := by
    intro j v h
    have hj : j = 0 := by rcases j with _ | j; · rfl
                          · simp at h
    subst hj
    simp at h
    subst h
    exact hX
  have ho1 : ∀ v ∈ List.replicate 1 (Value.int .i64 z), v.oneCell' = true := by intro v hv; obtain rfl := List.eq_of_mem_replicate hv; rfl
  generalize hgX : w1.alloc (Obj.cells (madeCells #[.int .i64 0] c) 3) = X at *
  go_wp2_with (refine wpList_copy_splice rfl (.tmp 31) (.tmp 32) 32 32 rfl 3 Try.underlying32 hsz (some ⟨w1.heap.size, 0, none⟩) (some ⟨xb, 0, none⟩) c c 1 1 (by simp [Act.eval]) (by simp [Act.eval]) w1.heap.size 0 (rep z 0 c) 3 hg (List.replicate 1 (.int .i64 z)) hn1 (fun _ => ⟨rfl, _, rfl, hs1⟩) (by rw [rep_len (by omega)]; simpa using c1) ho1 w1.heap.size w1 hB (Nat.le_refl _) ?_; intro w2 hg2 hB2)
  rw [rep_splice (by omega)] at hg2
  clear hg hX hB hs1 hn1 ho1 hgX hmk
  clear X
  go_loopw [8] (fun i wr => ∃ k : Nat, 1 ≤ k ∧ k ≤ c ∧ i = .int .i64 k ∧ Hid (wr.heap[w1.heap.size]? = some (.cells (rep z k c).toArray 3 (0, 0))) ∧ Hid (Below w1.heap.size w1 wr)) (fun i _ => c - (RowKit.intOf i).toNat)
  case atStart => exact ⟨1, Nat.le_refl _, c1, rfl, by simpa using hg2, Lib.hid hB2⟩
  case round =>
    obtain ⟨k, k1, k2, rfl, hgk, hBk⟩ := hrel
    clear hg2 hB2
    by_cases hlt : k < c
    · have hi5 : (k : Int) < (c : Int) := by omega
      obtain ⟨q, hq⟩ : ∃ q, q = min k (c - k) := ⟨_, rfl⟩
      have hcs : (List.replicate q (Value.int .i64 z)).length = Nat.min k (c - k) := by rw [List.length_replicate, hq]
      have ho1 : ∀ v ∈ List.replicate q (Value.int .i64 z), v.oneCell' = true := by intro v hv; obtain rfl := List.eq_of_mem_replicate hv; rfl
      have hs1 : ∀ (j : Nat) (v : Value), (List.replicate q (Value.int .i64 z))[j]? = some v → wr.cell? ((⟨w1.heap.size, 0, none⟩ : Addr).add j) = some v := fun j v h => rep_cell hgk.out (by omega) h
      have hfit : k + (List.replicate q (Value.int .i64 z)).length ≤ (rep z k c).length := by rw [rep_len (by omega), List.length_replicate, hq]; omega
      replace hcs := Lib.hid hcs
      have hck : ¬ c = k := by omega
      have q1 : 1 ≤ q := by omega
      have q2 : k + q ≤ c := by omega
      clear hq
      replace hfit := Lib.hid hfit
      go_upto_region 9 with fail
      go_region_law (refine step_copy_splice rfl (.tmp 41) (.tmp 44) 32 32 rfl 3 Try.underlying32 hsz (some ⟨w1.heap.size, k, none⟩) (some ⟨w1.heap.size, 0, none⟩) (c - k) (c - k) k c (by simp [Act.eval, Act.put]) (by simp [Act.eval, Act.put]) w1.heap.size k (rep z k c) 3 hgk.out (List.replicate q (.int .i64 z)) hcs.out (fun _ => ⟨rfl, _, rfl, hs1⟩) hfit.out ho1 w1.heap.size w1 hBk.out.drew (Nat.le_refl _) ?_; intro w4 hg4 hb4)
      rw [rep_splice q2] at hg4
      go_simp
      have hkq : IntKind.i64.wrap ((k : Int) + (q : Int)) = ((k + q : Nat) : Int) := by rw [wrap_ok (by omega) (by omega)]; simp
      refine ⟨⟨_, _, _, _, _, _, _, _, _, _, _, _, _, _, ⟨k + q, Nat.le_trans k1 (Nat.le_add_right _ _), q2, by rw [hkq], hg4, Lib.hid hb4⟩, rfl⟩, ?_⟩
      show c - (RowKit.intOf (.int .i64 (IntKind.i64.wrap ((k : Int) + (q : Int))))).toNat < c - (RowKit.intOf (.int .i64 (k : Int))).toNat
      rw [hkq]
      show c - ((k + q : Nat) : Int).toNat < c - (k : Int).toNat
      omega
    · obtain rfl : k = c := by omega
      have hi5 : ¬ (k : Int) < (k : Int) := by omega
      go_wp2
      go_ret
      exact ⟨w1.heap.size, Nat.le_refl _, rfl, rep_end hgk.out, hBk.out⟩

/-- unbound -/
theorem unbound_any (n gb : Nat) (n1 : 1 ≤ n) (n2 : n ≤ 60) (w : World) (g0 : w.cell? ⟨gb, 0, none⟩ = some (.int .i64 n)) :
    Calls Try.prog 74 #[.pointer (some ⟨gb, 0, none⟩)] w (RepPost w n 1152921504606846976) := by
  have HR := Lib.hid (repeat_any n n1 n2 1152921504606846976 w.heap.size (w.alloc (Obj.cells #[.int .i64 1152921504606846976] 3)) (by simp [go_sem]))
  have g1 := cell_alloc g0 (Obj.cells #[.int .i64 1152921504606846976] 3)
  go_enter Try.func74, Try.ntmps74
  go_wp2_with fail
  refine HR.out.mono ?_
  rintro e w1 ⟨sb, h1, rfl, hr, hb⟩
  have h2 : w.heap.size ≤ sb := by simp at h1; omega
  have hB : Below w.heap.size w w1 := (below_alloc (Below.refl _ _) _).trans (hb.mono (by simp))
  replace hr := Lib.hid hr
  clear hb HR
  go_wp2
  go_ret
  exact ⟨sb, h2, rfl, hr.out, hB⟩

/-- what boundsTo leaves -/
def BtPost (w : World) (n : Nat) (R : Option (List Int)) (e : Ending) (w' : World) : Prop :=
  ∃ sb, w.heap.size ≤ sb ∧ Below w.heap.size w w' ∧ e = .returned (.slice (some ⟨sb, 0, none⟩) n n) ∧ ∀ s, R = some s → ∃ f, w'.rowIs sb 3 n f ∧ ∀ i, i < n → f i = .int .i64 (s.getD i 0)

theorem un_get {n v i : Nat} (hi : i < n) : ((Ch.unbound n).set v 0).getD i 0 = if i = v then 0 else 1152921504606846976 := by
  unfold Ch.unbound
  rw [List.getD, List.getElem?_set, List.length_replicate]
  by_cases e : v = i
  · rw [if_pos e, if_pos (by omega), if_pos e.symm]; rfl
  · rw [if_neg e, if_neg (by omega), List.getElem?_replicate, if_pos hi]; rfl

set_option maxRecDepth 100000 in
set_option maxHeartbeats 1000000 in
theorem boundsTo_any (n gb : Nat) (n1 : 1 ≤ n) (n2 : n ≤ 60) (v : Nat) (hv : v < n) (L : List Ch.Lk) (drop : List Bool) (fuel : Nat) (R : Option (List Int)) (hR : Hid (Ch.boundsTo n L drop fuel v = some R)) (H ib db m : Nat) (a : Option Addr) (cap0 : Nat) (V : Nat → Value) (w : World) (G : Hid (Gr w H gb ib db n m a cap0 V L (fun i => drop.getD i false))) :
    Calls Try.prog 53 #[.pointer (some ⟨gb, 0, none⟩), .int .i64 v] w (BtPost w n R) := by
  have HU := Lib.hid (unbound_any n gb n1 n2 w (G.out.g.cell (i := 0) (by omega)))
  have hHw := G.out.hH
  go_enter Try.func53, Try.ntmps53
  go_wp2_with fail
  refine HU.out.mono ?_
  rintro e w1 ⟨sb, h1, rfl, hr, hB⟩
  have hc := hr.cell (i := v) hv
  have hfz := hr.frozen v
  have r2 := Lib.hid (hr.set v (.int .i64 0))
  have hv1 : (v : Int) < (n : Int) := by omega
  clear HU hr
  go_wp2_with fail
  refine (settle_any n gb sb n n n1 n2 (Nat.le_refl _) ((Ch.unbound n).set v 0) (Lib.hid (by simp [Ch.unbound])) L drop fuel R hR H ib db m a cap0 V (by omega) _ (Lib.hid (G.out.below ((hB.mono hHw).setCell (by simp; omega) _))) _ r2 (Lib.hid fun i hi => by rw [un_get hi]; split <;> rfl) (Lib.hid fun i hi => by rw [un_get hi]; split <;> omega)).mono ?_
  rintro e w2 h
  obtain ⟨hb, rfl, hr⟩ := set_none h
  have hB2 : Below w.heap.size w w2 := (hB.setCell (by simp; omega) _).trans (hb.below (B := w.heap.size) (by simp; exact hB.size) (fun k hk => by omega))
  clear hb h hB r2
  replace hr := Lib.hid hr
  go_wp2
  go_ret
  exact ⟨sb, h1, hB2, rfl, hr.out⟩
end Go.Proofs.Ytkcchangkhklcaa

/- Contracts of package chain: open. -/
namespace Go.Proofs.Ytkcchangkhklcaa
open Go.RowKit

/-- what newGraph leaves is a graph -/
theorem gr_of_ng {w w' : World} {n m : Nat} {a : Option Addr} {cap gb ib db : Nat} {V : Nat → Value} {L : List Ch.Lk} (hm : L.length = m) (m3 : m ≤ 300) (ok : ∀ j, j < L.length → Ch.okLk n (L.getD j Ch.noLk) = true) (hg : w'.rowIs gb 93 4 (gF n a m cap ib db)) (hi : IntoAt w' w.heap.size ib n V (Ch.into L)) (hd : w'.rowIs db 4 m (fun _ => .bool false)) (hL : LksAt w' a L) :
    Gr w' w'.heap.size gb ib db n m a cap V L (fun i => ([] : List Bool).getD i false) := by
  refine ⟨hm, m3, ok, hg, hi.row, hd, fun u hu => ?_, fun k hk => ?_, hg.lt, hi.row.lt, hd.lt, Nat.le_refl _⟩
  · have ho := hi.own u hu
    by_cases h0 : (Ch.into L u).length = 0
    · obtain ⟨_, h2⟩ := ho
      rcases h2 with ⟨h3, h4⟩ | ⟨g, cp, cur, h3, _⟩
      · exact ⟨none, 0, by rw [h3, h0], fun k hk => by omega⟩
      · exact ⟨some ⟨g, 0, none⟩, cp, h3, fun k hk => by omega⟩
    · obtain ⟨g, cp, f, h1, _, h3, _, h5, h6⟩ := owns_row ho (by omega)
      refine ⟨some ⟨g, 0, none⟩, cp, h1, fun k hk => ⟨⟨g, 0, none⟩, rfl, h5.lt, ?_⟩⟩
      have e : (⟨g, 0, none⟩ : Addr).add k = ⟨g, k, none⟩ := by unfold Addr.add; split <;> simp_all
      rw [e, h5.cell (i := k) (by omega)]
      have h7 := h6 k hk
      rw [List.getElem?_map, List.getElem?_eq_getElem hk] at h7
      rw [List.getD, List.getElem?_eq_getElem hk]
      simpa using h7.symm
  · obtain ⟨x, hx, h1⟩ := hL k hk
    have e : (x.add (k * 3)).block = x.block := by unfold Addr.add; split <;> rfl
    exact ⟨x, hx, by rw [← e]; exact block_lt_of_cell h1.1, h1⟩

/-- the marks of the links that are left out lie apart -/
structure Ap (gb ib db n m : Nat) (a : Option Addr) (V : Nat → Value) : Prop where
  g : gb ≠ db
  i : ib ≠ db
  v : ∀ u, u < n → ∀ x l c, V u = .slice (some x) l c → x.block ≠ db
  l : ∀ x, a = some x → 0 < m → x.block ≠ db

theorem ap_of_ng {w w' : World} {n m : Nat} {a : Option Addr} {cap gb ib db : Nat} {V : Nat → Value} {L : List Ch.Lk} (hm : L.length = m) (hg : w'.rowIs gb 93 4 (gF n a m cap ib db)) (hi : IntoAt w' w.heap.size ib n V (Ch.into L)) (hd : w'.rowIs db 4 m (fun _ => .bool false)) (hL : LksAt w a L) (hdb : w.heap.size ≤ db) : Ap gb ib db n m a V := by
  obtain ⟨cd, d1, _⟩ := hd
  refine ⟨fun e => ?_, fun e => ?_, fun u hu x l c hV e => ?_, fun x hx h0 e => ?_⟩
  · obtain ⟨_, h1, _⟩ := hg
    rw [e, d1] at h1
    cases h1
  · obtain ⟨_, h1, _⟩ := hi.row
    rw [e, d1] at h1
    cases h1
  · obtain ⟨_, h2⟩ := hi.own u hu
    rcases h2 with ⟨h3, _⟩ | ⟨g, cp, cur, h3, _, h4, _⟩
    · rw [h3] at hV; cases hV
    · rw [h3] at hV
      cases hV
      rw [show g = db from e, d1] at h4
      cases h4
  · obtain ⟨y, hy, h1⟩ := hL 0 (by omega)
    rw [hx] at hy
    obtain rfl := Option.some.inj hy
    have h2 := block_lt_of_cell h1.1
    have e2 : (x.add (0 * 3)).block = x.block := by unfold Addr.add; split <;> rfl
    rw [e2] at h2
    omega
theorem Gr.high {w : World} {H gb ib db n m : Nat} {a : Option Addr} {cap : Nat} {V : Nat → Value} {L : List Ch.Lk} {D : Nat → Bool} (h : Gr w H gb ib db n m a cap V L D) : Gr w w.heap.size gb ib db n m a cap V L D := by
  refine ⟨h.hm, h.m3, h.ok, h.g, h.i, h.d, fun u hu => ?_, fun k hk => ?_, Nat.lt_of_lt_of_le h.hg h.hH, Nat.lt_of_lt_of_le h.hi h.hH, Nat.lt_of_lt_of_le h.hd h.hH, Nat.le_refl _⟩
  · obtain ⟨av, cr, h1, h2⟩ := h.v u hu
    exact ⟨av, cr, h1, fun k hk => by
      obtain ⟨x, hx, hlt, hcx⟩ := h2 k hk
      exact ⟨x, hx, Nat.lt_of_lt_of_le hlt h.hH, hcx⟩⟩
  · obtain ⟨x, hx, hlt, h1⟩ := h.l k hk
    exact ⟨x, hx, Nat.lt_of_lt_of_le hlt h.hH, h1⟩

/-- what open leaves -/
def OpPost (w : World) (n : Nat) (a : Option Addr) (m cap : Nat) (L : List Ch.Lk) (ec : Int) (e : Ending) (w' : World) : Prop :=
  Below w.heap.size w w' ∧ ((ec ≠ 0 ∧ e = .returned (.tuple #[.pointer none, .int .i64 ec])) ∨
    (ec = 0 ∧ ∃ gb ib db V, w.heap.size ≤ gb ∧ e = .returned (.tuple #[.pointer (some ⟨gb, 0, none⟩), .int .i64 0]) ∧ Gr w' w'.heap.size gb ib db n m a cap V L (fun i => ([] : List Bool).getD i false) ∧ Ap gb ib db n m a V ∧ w.heap.size ≤ db))

set_option maxRecDepth 100000 in
set_option maxHeartbeats 2000000 in
theorem open_bad (n : Int) (a : Option Addr) (m cap : Nat) (b : Option Addr) (q cap2 : Nat) (ec at1 : Int) (hec : ¬ ec = 0) (w : World) (HC : Hid (∀ W : World, Below w.heap.size w W → Calls Try.prog 11 #[.agg #[.int .i64 n, .slice a m cap]] W fun e w' => e = .returned (.tuple #[.int .i64 ec, .int .i64 at1]) ∧ Below W.heap.size W w')) :
    Calls Try.prog 52 #[.agg #[.int .i64 n, .slice a m cap], .slice b q cap2] w fun e w' => e = .returned (.tuple #[.pointer none, .int .i64 ec]) ∧ Below w.heap.size w w' := by
  go_enter Try.func52, Try.ntmps52
  go_wp2_with fail
  refine (HC.out _ (below_alloc (Below.refl _ _) _)).mono ?_
  rintro e w1 ⟨rfl, hb1⟩
  have hv1 : Below w.heap.size w w1 := bstep1 (Below.refl _ _) hb1
  clear hb1
  go_wp2
  go_ret2
  exact ⟨rfl, hv1⟩

set_option maxRecDepth 100000 in
set_option maxHeartbeats 2000000 in
theorem open_walk (n : Nat) (a : Option Addr) (m cap : Nat) (b : Option Addr) (q cap2 : Nat) (q9 : q ≤ 1000) (l : List Int) (hq : Hid (l.length = q)) (L : List Ch.Lk) (ec at1 : Int) (w : World) (hl : Hid (IntsAt w b l)) (HC : Hid (∀ W : World, Below w.heap.size w W → Calls Try.prog 11 #[.agg #[.int .i64 n, .slice a m cap]] W fun e w' => e = .returned (.tuple #[.int .i64 0, .int .i64 at1]) ∧ Below W.heap.size W w'))
    (HN : Hid (∀ W : World, Below w.heap.size w W → Calls Try.prog 46 #[.agg #[.int .i64 n, .slice a m cap]] W fun e w' => ∃ gb ib db V, w.heap.size ≤ gb ∧ e = .returned (.pointer (some ⟨gb, 0, none⟩)) ∧ Hid (Gr w' w'.heap.size gb ib db n m a cap V L (fun i => ([] : List Bool).getD i false)) ∧ Hid (Ap gb ib db n m a V ∧ w.heap.size ≤ db) ∧ Below W.heap.size W w'))
    (r : Bool) (HR : Hid (∀ (W : World) (H gb ib db : Nat) (V : Nat → Value), Gr W H gb ib db n m a cap V L (fun i => ([] : List Bool).getD i false) → Calls Try.prog 47 #[.pointer (some ⟨gb, 0, none⟩)] W fun e w' => e = .returned (.bool r) ∧ Below W.heap.size W w'))
    (hec : Hid ((if l.all (fun i => Ch.isIx i n) then if r then 0 else 9 else 1) = ec)) :
    Calls Try.prog 52 #[.agg #[.int .i64 n, .slice a m cap], .slice b q cap2] w (OpPost w n a m cap L ec) := by
  go_enter Try.func52, Try.ntmps52
  go_wp2_with fail
  refine (HC.out _ (below_alloc (Below.refl _ _) _)).mono ?_
  rintro e w1 ⟨rfl, hb1⟩
  have k0 : w1.cell? ⟨w.heap.size, 0, none⟩ = some (.int .i64 n) := kept1 (by simp [go_sem]) hb1
  have k1 : w1.cell? ⟨w.heap.size, 1, none⟩ = some (.slice a m cap) := kept1 (by simp [go_sem]) hb1
  have hv1 : Below w.heap.size w w1 := bstep1 (Below.refl _ _) hb1
  clear hb1 HC
  go_wp2
  go_loopw [21] (fun i wr => ∃ k : Nat, k ≤ q ∧ i = .int .i64 k ∧ wr = w1 ∧ Hid (l.all (fun i => Ch.isIx i n) = (l.drop k).all (fun i => Ch.isIx i n))) (fun i _ => q - (RowKit.intOf i).toNat)
  case atStart => exact ⟨0, Nat.zero_le _, rfl, rfl, Lib.hid rfl⟩
  case round =>
    obtain ⟨k, hk, rfl, rfl, hall⟩ := hrel
    by_cases hlt : k < q
    · obtain ⟨x, rfl, hcx⟩ := hl.out k (by have := hq.out; omega)
      have hst := Ch.all_at (p := fun i => Ch.isIx i n) (l := l) (k := k) (by have := hq.out; omega)
      obtain ⟨z, hz⟩ : ∃ z, l.getD k 0 = z := ⟨_, rfl⟩
      have hc := kept1 hcx hv1
      rw [hz] at hc hst
      clear hz hcx
      have hi5 : (k : Int) < (q : Int) := by omega
      have HV := isIndex_any z n
      cases hv : Ch.isIx z n
      · rw [hv] at HV hst
        replace HV := Lib.hid HV
        have h1 : ec = 1 := by
          have h := hec.out
          rw [hall.out, hst] at h
          simpa using h.symm
        subst h1
        clear hst hec
        go_wp2_with fail
        refine (HV.out _).mono ?_
        rintro e w2 ⟨rfl, hb2⟩
        subst hb2
        go_wp2
        go_ret2
        exact ⟨hv1, .inl ⟨by decide, rfl⟩⟩
      · rw [hv] at HV hst
        replace HV := Lib.hid HV
        replace hst := Lib.hid hst
        go_wp2_with fail
        refine (HV.out _).mono ?_
        rintro e w2 ⟨rfl, hb2⟩
        subst hb2
        go_wp2
        go_roundw
        case rel => exact ⟨k + 1, by omega, by go_num, by first | rfl | trivial, Lib.hid (by rw [hall.out, hst.out]; simp)⟩
        case measure => show q - ((k : Int) + 1).toNat < q - (k : Int).toNat; omega
    · obtain rfl : k = q := by omega
      have hi5 : ¬ (k : Int) < (k : Int) := by omega
      have hb9 : Hid ((if r then 0 else 9) = ec) := Lib.hid (by
        have h := hec.out
        rw [hall.out, List.drop_eq_nil_of_le (by have := hq.out; omega)] at h
        simpa using h)
      clear hall hec
      go_wp2_with fail
      refine (HN.out _ hv1).mono ?_
      rintro e w2 ⟨gb, ib, db, V, hge, rfl, hG, hA, hb2⟩
      go_wp2_with fail
      refine (HR.out _ _ _ _ _ _ hG.out).mono ?_
      rintro e w3 ⟨rfl, hb3⟩
      have hv3 : Below w.heap.size w w3 := hv1.trans ((hb2.trans (hb3.mono hb2.size)).mono hv1.size)
      have hG3 := Lib.hid (hG.out.below hb3)
      clear hb2 hb3 hG k0 k1 HR HN
      cases r
      · obtain rfl : 9 = ec := hb9.out
        go_wp2
        go_ret2
        exact ⟨hv3, .inl ⟨by decide, rfl⟩⟩
      · obtain rfl : 0 = ec := hb9.out
        go_wp2
        go_ret2
        exact ⟨hv3, .inr ⟨rfl, gb, ib, db, V, hge, rfl, hG3.out.high, hA.out.1, hA.out.2⟩⟩

/-- open -/
theorem open_any (n : Int) (a : Option Addr) (cap : Nat) (L : List Ch.Lk) (b : Option Addr) (cap2 : Nat) (l : List Int) (hl9 : l.length ≤ 1000) (fuel : Nat) (hE : (Ch.check n L).1 = 0 → Ch.enough n.toNat L [] fuel = true) (w : World) (hL : LksAt w a L) (hl : IntsAt w b l) :
    Calls Try.prog 52 #[sysV n a L.length cap, .slice b l.length cap2] w (OpPost w n.toNat a L.length cap L (Ch.opn n L l fuel)) := by
  have HC := Lib.hid fun (W : World) (hb : Below w.heap.size w W) => check_any n a cap L W (hL.below hb)
  unfold Ch.opn Ch.openE
  by_cases h : (Ch.check n L).1 = 0
  · rw [if_neg (by omega)]
    rw [h] at HC
    obtain ⟨n1, n2, hm, hok⟩ := Ch.check_ok h
    obtain ⟨N, rfl⟩ : ∃ N : Nat, n = (N : Int) := ⟨n.toNat, by omega⟩
    have hE2 := hE h
    rw [Int.toNat_natCast] at hE2 ⊢
    obtain ⟨R, hR2, hR3⟩ := Ch.enough_levels hE2
    rw [← hR3]
    refine open_walk N a _ cap b _ cap2 hl9 l (Lib.hid rfl) L _ _ w (Lib.hid hl) HC (Lib.hid fun W hb => ?_) R.isSome (Lib.hid fun W H gb ib db V G => consistent_any N gb (by omega) (by omega) L [] fuel R (Lib.hid hR2) H ib db _ a cap V W (Lib.hid G)) (Lib.hid rfl)
    refine (newGraph_any N (by omega) a cap L _ (Lib.hid rfl) hm (Lib.hid hok) W (Lib.hid (hL.below hb))).mono ?_
    rintro e w' ⟨gb, ib, db, V, rfl, h1, h2, h3, h4, h5, h6, h7⟩
    exact ⟨gb, ib, db, V, Nat.le_trans hb.size h4, rfl, Lib.hid (gr_of_ng (w := W) rfl hm hok h1 h2 h3 ((hL.below hb).below h7)), Lib.hid ⟨ap_of_ng (w := W) rfl h1 h2 h3 (hL.below hb) h6, Nat.le_trans hb.size h6⟩, h7⟩
  · rw [if_pos h]
    refine (open_bad n a _ cap b _ cap2 _ _ h w HC).mono ?_
    rintro e w' ⟨rfl, hb⟩
    exact ⟨hb, .inl ⟨h, rfl⟩⟩
end Go.Proofs.Ytkcchangkhklcaa

/- Contracts of package chain: opposites. -/
namespace Go.Proofs.Ytkcchangkhklcaa
open Go.RowKit

/-- numbers of which the first k have got the opposite sign -/
def oppF (f : Nat → Value) (l : List Int) (k : Nat) : Nat → Value := fun i => if i < k then .int .i64 (-(l.getD i 0)) else f i

theorem opp_step {W : World} {sb N k : Nat} {f : Nat → Value} {l : List Int} (h : W.rowIs sb 3 N (oppF f l k)) : (W.setCell ⟨sb, k, none⟩ (.int .i64 (-(l.getD k 0)))).rowIs sb 3 N (oppF f l (k + 1)) := by
  refine (h.set k _).congr (fun i _ => ?_)
  unfold oppF
  by_cases e : i = k
  · subst e; rw [if_pos rfl, if_pos (by omega)]
  · rw [if_neg e]
    by_cases e2 : i < k
    · rw [if_pos e2, if_pos (by omega)]
    · rw [if_neg e2, if_neg (by omega)]

/-- what opposites leaves -/
def OppPost (w : World) (sb N n cap : Nat) (f : Nat → Value) (l : List Int) (e : Ending) (w' : World) : Prop :=
  e = .returned (.slice (some ⟨sb, 0, none⟩) n cap) ∧ w'.rowIs sb 3 N (oppF f l n) ∧ But (fun k => k = sb) w w'

set_option maxRecDepth 100000 in
set_option maxHeartbeats 1000000 in
theorem opposites_any (sb N n cap : Nat) (hn : n ≤ 1000000) (hN : n ≤ N) (f : Nat → Value) (l : List Int) (hf : Hid (∀ i, i < n → f i = .int .i64 (l.getD i 0))) (hb : Hid (∀ i, i < n → -1152921504606846976 ≤ l.getD i 0 ∧ l.getD i 0 ≤ 1152921504606846976)) (w : World) (hr : Hid (w.rowIs sb 3 N f)) :
    Calls Try.prog 80 #[.slice (some ⟨sb, 0, none⟩) n cap] w (OppPost w sb N n cap f l) := by
  go_enter Try.func80, Try.ntmps80
  go_wp2
  go_loopw [6] (fun i wr => ∃ k : Nat, k ≤ n ∧ i = .int .i64 k ∧ Hid (wr.rowIs sb 3 N (oppF f l k)) ∧ Hid (But (fun k => k = sb) w wr)) (fun i _ => n - (RowKit.intOf i).toNat)
  case atStart => exact ⟨0, Nat.zero_le _, rfl, Lib.hid (hr.out.congr (fun i _ => by unfold oppF; rw [if_neg (by omega)])), Lib.hid (But.refl _ _)⟩
  case round =>
    obtain ⟨k, hk, rfl, hrow, hbt⟩ := hrel
    by_cases hlt : k < n
    · have hc := hrow.out.cell (i := k) (by omega)
      have hfz := hrow.out.frozen k
      have hv : oppF f l k k = .int .i64 (l.getD k 0) := by unfold oppF; rw [if_neg (by omega)]; exact hf.out k hlt
      rw [hv] at hc
      have hbk := hb.out k hlt
      have T := Lib.hid (opp_step hrow.out)
      obtain ⟨z, hz⟩ : ∃ z, l.getD k 0 = z := ⟨_, rfl⟩
      rw [hz] at hc hbk T
      clear hv hz
      obtain ⟨b1, b2⟩ := hbk
      have hi5 : (k : Int) < (n : Int) := by omega
      go_wp2
      go_roundw
      case rel => exact ⟨k + 1, by omega, by go_num, T, Lib.hid (hbt.out.setCell (p := ⟨sb, k, none⟩) (.inr rfl) _)⟩
      case measure => first | (simp [RowKit.intOf]; done) | (simp [RowKit.intOf]; omega) | omega
    · obtain rfl : k = n := by omega
      have hi5 : ¬ (k : Int) < (k : Int) := by omega
      go_wp2
      go_ret
      exact ⟨rfl, hrow.out, hbt.out⟩
end Go.Proofs.Ytkcchangkhklcaa
