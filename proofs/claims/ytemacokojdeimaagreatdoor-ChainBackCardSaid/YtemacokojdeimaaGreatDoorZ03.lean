/- What the claims of layer 2 share, part 3: several texts one behind the other. -/
import Derived.Sort.QuietIn
import Derived.StillTail
import Derived.StillTailTactics
import Derived.Deep.RegionHeld3
import Derived.Sort.LoopGhostIn
import Derived.Shelf.Abstract
import Derived.Test.YtemacokojdeimaaGreatDoorZ02
set_option linter.unusedSimpArgs false
set_option linter.unusedVariables false
/- A region that draws its order and only reads, inside a round. -/
namespace Go.Proofs.YtemacokojdeimaaGreatDoor
open Go.RowKit

variable {F : Fence} {n : Nat} {P : Program} {Q : Exit → Act → World → Prop} {a : Act} {w : World} {l : Nat}

theorem oper_round {o : Oper} {K : Act → World → Prop} (hro : F.round = none) (hd : ∀ c, o.op ≠ .defer c) (h : o.wpIn F n P a w K Q) : o.wpIn (F.inRound l) n P a w K Q := by
  unfold Oper.wpIn at h ⊢
  refine ⟨h.1, ?_⟩
  have e : o.semAt (F.inRound l).round a.eval = o.semAt F.round a.eval := by
    rw [Fence.inRound_round, hro, Oper.semAt_some l _ _ hd]; rfl
  rw [e]
  have h2 := h.2
  generalize (o.semAt F.round a.eval).run P w = r at h2 ⊢
  cases r with
  | ok x w' => cases x <;> exact h2
  | halt x w' => cases x <;> exact h2

theorem op_round {ops : Array Oper} {i : Nat} {K K' : Act → World → Prop} (hro : F.round = none) (hd : ∀ (i : Nat) (o : Oper), ops[i]? = some o → ∀ c, o.op ≠ .defer c) (hK : ∀ a w, K a w → K' a w) (h : wpOpIn F n P ops Q i K a w) : wpOpIn (F.inRound l) n P ops Q i K' a w := by
  have h := wpOpIn_mono hK h
  unfold wpOpIn at h ⊢
  cases ho : ops[i]? with
  | none => simp only [ho] at h ⊢; exact h
  | some o =>
    simp only [ho] at h ⊢
    split
    · rename_i hw
      simp only [hw, if_true] at h
      exact oper_round hro (hd i o ho) h
    · rename_i hw
      simp only [hw] at h
      exact h

theorem any_round {md : Region.Mode} {ops : Array Oper} (hro : F.round = none) (hd : ∀ (i : Nat) (o : Oper), ops[i]? = some o → ∀ c, o.op ≠ .defer c) : ∀ (fuel : Nat) (listed : Array Bool) (a : Act) (w : World), wpAnyIn F n P md ops Q fuel listed a w → wpAnyIn (F.inRound l) n P md ops Q fuel listed a w
  | 0, _, _, _, h => h
  | fuel + 1, _, _, _, h => ⟨h.1, fun i hi => op_round hro hd (fun a w h => any_round hro hd fuel _ a w h) (h.2 i hi)⟩

/-- no operation of a list is a 'defer' -/
def noDefer (ops : List Oper) : Bool := ops.all fun o => match o.op with | .defer _ => false | _ => true
theorem noDefer_spec {ops : List Oper} (h : noDefer ops = true) : ∀ (i : Nat) (o : Oper), ops.toArray[i]? = some o → ∀ c, o.op ≠ .defer c := by
  intro i o ho c e
  unfold noDefer at h
  rw [List.all_eq_true] at h
  have hm : o ∈ ops := by
    have : ops[i]? = some o := by simpa using ho
    exact List.mem_of_getElem? this
  have := h o hm
  rw [e] at this
  cases this

/-- a quiet region inside a round: one walk serves every order -/
theorem quiet_round {id : Nat} {ops : List Oper} (hro : F.round = none) (hd : noDefer ops = true) (hm : P.follows .mixedOrders = true) (hB : Region.lexB .any ops.toArray = true)
    (h : wpQuietIn F n P ops.toArray (fun w' => ∃ k, w' = w.drewN k) (fun a' => ∀ w', (∃ k, w' = w.drewN k) → Q .normal a' w') ops a) : (Code.region id ops.toArray true).wpIn (F.inRound l) n P Q a w := by
  simp only [Region.lexB, Bool.and_eq_true] at hB
  refine wpIn_region_any hm (any_round hro (noDefer_spec hd) _ _ _ _ ?_)
  refine wpAnyIn_of_quiet (C := fun w' => ∃ k, w' = w.drewN k) (Q := fun a' => ∀ w', (∃ k, w' = w.drewN k) → Q .normal a' w') hro (fun _ w' hw' h => h w' hw') _ _ _ _ ⟨1, rfl⟩ ?_
  have := wpAnyQIn_lex (F := F) (n := n) (C := fun w' => ∃ k, w' = w.drewN k) (md := .any) hB.1 ops 0 (Array.replicate ops.toArray.size false) a (by simp) (by simpa using hB.2) h
  simpa using this
end Go.Proofs.YtemacokojdeimaaGreatDoor

/- A region that draws its order, reads first and stores last, inside a round. -/
namespace Go.Proofs.YtemacokojdeimaaGreatDoor
open Go.RowKit

variable {n : Nat} {P : Program} {Q : Exit → Act → World → Prop} {a : Act} {w : World}

theorem rows_wide {row : String} {args : Array Value} {R : Value → World → Prop} (h : Rows P row args w R) : RowsIn Fence.wide n P row args w R := fun c cs _ =>
  let ⟨v, w', r, s⟩ := h c cs
  ⟨v, w', r, stepsIn_wide.2 s⟩

/-- an operation that is walked at no fence, walked at the wide one -/
theorem oper_wide {o : Oper} {K : Act → World → Prop} (h : o.wp P a w K Q) : o.wpIn Fence.wide n P a w K Q := by
  refine ⟨fun _ _ => trivial, ?_⟩
  unfold Oper.wp at h
  show o.uponIn Fence.wide n P a K Q ((execOp a.eval o).run P w)
  generalize (execOp a.eval o).run P w = r at h ⊢
  cases r with
  | ok x w' =>
    cases x with
    | enter f args => exact ⟨fun h => by simp [Fence.wide] at h, callsIn_wide.2 h⟩
    | row row args => exact ⟨fun h => by simp [Fence.wide] at h, rows_wide h⟩
    | _ => first | exact h | exact h.elim
  | halt x w' => cases x <;> first | exact h | exact h.elim

theorem any_wide {md : Region.Mode} {ops : Array Oper} (hQ : ¬ LetsOut Q) : ∀ (fuel : Nat) (listed : Array Bool) (a : Act) (w : World), wpAny P md ops Q fuel listed a w → wpAnyIn Fence.wide n P md ops Q fuel listed a w
  | 0, _, _, _, h => h
  | fuel + 1, listed, a, w, h => ⟨h.1, fun i hi => by
    have h2 := h.2 i hi
    unfold wpOp at h2
    unfold wpOpIn
    cases ho : ops[i]? with
    | none => simp only [ho] at h2 ⊢; exact any_wide hQ fuel _ _ _ h2
    | some o =>
      simp only [ho] at h2 ⊢
      split
      · rename_i hw
        simp only [hw, if_true] at h2
        exact Oper.wpIn_mono (fun a w h => any_wide hQ fuel _ a w h) (oper_wide (h2.resolve_right (fun h => hQ h.2)))
      · rename_i hw
        simp only [hw] at h2
        exact ⟨fun _ _ => trivial, any_wide hQ fuel _ _ _ h2⟩⟩

/-- reads first, then stores: one walk serves every order, inside a round -/
theorem tail_round {id r k : Nat} {ops : List Oper} (m : Nat) (hQ : ¬ LetsOut Q) (hd : noDefer ops = true) (hm : P.follows .mixedOrders = true) (hB : Region.lexTailB .any ops.toArray m = true)
    (h : wpStill P ops.toArray { w with drawn := w.drawn + 1 } (fun a' => wpList P ops.toArray Q (ops.drop m) a' { w with drawn := w.drawn + 1 }) (ops.take m) a) : (Code.region id ops.toArray true).wpIn (Fence.wide.inRound r) k P Q a w := by
  simp only [Region.lexTailB, Bool.and_eq_true, decide_eq_true_eq] at hB
  obtain ⟨⟨⟨⟨h1, h2⟩, h3⟩, h4⟩, h5⟩ := hB
  have h6 : m < ops.length := by simpa using h2
  have h7 : (ops.take m).length = m := by simp; omega
  have h8 : (ops.drop m).length = ops.toArray.size - m := by simp
  have H := wpAnyL_lex (md := .any) (g := ops.toArray.size - m) h1 h3 h4 h2 (ops.take m) 0 (Array.replicate ops.toArray.size false) a (fun j hj => by
    have : j < m := by rw [h7] at hj; exact hj
    simp [this]) (by simpa using h7) ⟨by simp, fun j oj _ hl => (by rw [getD_replicate_false] at hl; cases hl), fun t _ ht => getD_in (by simpa using ht) (getD_replicate_false _ _)⟩ (by rw [h7]; exact h5) h
  have K := wpAny_of_head (Q' := Q) (g := ops.toArray.size - m) (fun listed a' hL => by
    have e := wpAny_of_seq (md := .any) (Q' := Q) (ops.drop m) m listed a' { w with drawn := w.drawn + 1 } (fun j => by simp [List.getElem?_drop]) (by rw [h8]; exact hL.1) hL.2
    rwa [h8] at e) _ _ _ H
  rw [h7, show m + (ops.toArray.size - m) = ops.toArray.size by omega] at K
  exact wpIn_region_any hm (any_round rfl (noDefer_spec hd) _ _ _ _ (any_wide hQ _ _ _ _ K))
/-- any order, a condition on the world kept behind each operation, inside a round -/
theorem held_round {id r k : Nat} {ops : List Oper} (S : World → Prop) (hQ : ¬ LetsOut Q) (hd : noDefer ops = true) (hm : P.follows .mixedOrders = true) (hS : S w.drew)
    (h : S w.drew → wpAnyH P .any ops.toArray Q S ops.toArray.size (Array.replicate ops.toArray.size false) a w.drew) : (Code.region id ops.toArray true).wpIn (Fence.wide.inRound r) k P Q a w :=
  wpIn_region_any hm (any_round rfl (noDefer_spec hd) _ _ _ _ (any_wide hQ _ _ _ _ (wpAny_of_held _ _ _ _ (h hS))))
end Go.Proofs.YtemacokojdeimaaGreatDoor

/- settle: region 18, inside a round. -/
namespace Go.Proofs.YtemacokojdeimaaGreatDoor
open Go.RowKit

theorem others_but {T : Nat → Prop} {W W' : World} (hb : But T W W') (hT : ∀ (k : Nat) (o : Obj), T k → W.heap[k]? = some o → o.isCells = true) : KeepsOthers W W' :=
  ⟨hb.size, fun k o hk ho => (hb.block k (Array.getElem?_eq_some_iff.1 hk).1 (fun ht => by have := hT k o ht hk; rw [this] at ho; cases ho)).trans hk⟩

theorem row_cells {W : World} {b : Nat} {t : TypeId} {n : Nat} {f : Nat → Value} (h : W.rowIs b t n f) {o : Obj} (hk : W.heap[b]? = some o) : o.isCells = true := by
  obtain ⟨_, h1, _⟩ := h
  rw [hk] at h1
  obtain rfl := Option.some.inj h1
  rfl

theorem SS.put_others {w W W' : World} {B sb N n cap gb : Nat} {x : Ch.St} {go : Option Nat} {rs : List Nat} (h : SS w B sb N n cap gb x go rs W) (hb : But (fun k => k = B + 3 ∨ go = some k) W W') : KeepsOthers W W' := by
  refine others_but hb ?_
  rintro k o (rfl | e) hk
  · obtain ⟨_, _, r, _⟩ := h.q
    exact row_cells r hk
  · obtain ⟨_, _, r⟩ := h.go_cells e
    exact row_cells r hk

theorem SS.fin0 {w W : World} {sb N n cap gb : Nat} {x : Ch.St} {go : Option Nat} {rs : List Nat} (h : SS w w.heap.size sb N n cap gb x go rs W) (t : Bool) : Fin w sb N n x.s rs t (W.setCell ⟨w.heap.size + 2, 0, none⟩ (.bool t)) := by
  obtain ⟨f, s1, s2⟩ := h.sm
  have hB := h.hsb
  refine ⟨(h.b2.set 0 (.bool t)).congr (fun i hi => if_pos (by omega)), ⟨f, s1.setOther (a := ⟨w.heap.size + 2, 0, none⟩) (by simp; omega) _, s2⟩, fun r hr => ⟨(h.mks r hr).1, ?_⟩, h.bt.setCell (p := ⟨w.heap.size + 2, 0, none⟩) (.inl (by simp)) _, hB⟩
  have h2 := (h.mks r hr).2
  have h1 := (h.mks r hr).1
  rw [Below.heap_setCell _ _ _ _ (by simp; omega)]
  exact h2

theorem wrap_ok {z : Int} (h1 : -9223372036854775808 ≤ z) (h2 : z < 9223372036854775808) : IntKind.i64.wrap z = z := by
  rw [IntKind.wrap_i64]
  omega

theorem cell_set_ne {W : World} {p q : Addr} {v x : Value} (h : W.cell? p = some x) (hne : p.block ≠ q.block) : (W.setCell q v).drew.cell? p = some x := by
  have : (W.setCell q v).cell? p = some x := by
    rw [World.cell?_setCell_other _ _ _ _ (by intro e; exact hne (by rw [e]))]
    exact h
  exact this

set_option maxHeartbeats 4000000 in
theorem reg18 {t0 t1 t2 t4 t5 t6 t8 t9 t11 t13 t14 t15 t16 t17 t18 t19 t20 t21 t22 t23 t24 t25 t26 t27 t28 t29 t30 t31 t32 t33 t34 t35 t36 t37 t38 t39 t40 t41 t42 t43 t44 t45 t46 t47 t48 t49 t50 t51 t52 t53 t54 t55 t56 t57 t58 t59 t60 t61 t62 t63 t64 t65 t66 t67 t68 t69 t70 t71 t72 t73 t74 t75 t76 t77 t78 t79 t80 t81 t82 t83 t84 t85 t86 t87 t88 t89 : Value} {D : List Deferred} {r k : Nat} {Q : Exit → Act → World → Prop} {Z : World} {c3 c7 nb bb sb n cap u f' : Nat} {s1 mo cu : Int}
    (hQ : ¬ LetsOut Q) (hQ2 : ∀ (d : Option Tmp) (v : Value) (c : _) (a : Act) (w : World), Q (.panic c) (a.put d v) w → Q (.panic c) a w)
    (i1 : (0 : Int) ≤ (f' : Int)) (i2 : (f' : Int) < (n : Int)) (i3 : (u : Int) < (n : Int)) (i4 : (f' : Int) < 60) (i5 : (0 : Int) ≤ (u : Int)) (i6 : (u : Int) < 60)
    (a1 : IntKind.i64.wrap (s1 + mo) = s1 + mo) (a2 : IntKind.i64.wrap (cu + 1) = cu + 1)
    (n1 : bb ≠ sb) (n2 : nb ≠ sb) (n3 : c3 ≠ sb) (n4 : bb ≠ c7) (n5 : nb ≠ c7) (n6 : c3 ≠ c7) (n7 : sb ≠ c7)
    (z0 : Z.drew.cell? ⟨bb, 0, none⟩ = some (.int .i64 (f' : Int))) (z2 : Z.drew.cell? ⟨bb, 2, none⟩ = some (.int .i64 mo)) (zn : Z.drew.cell? ⟨nb, 0, none⟩ = some (.int .i64 (u : Int)))
    (zr : Z.drew.cell? ⟨c3, 0, none⟩ = some (.slice (some ⟨sb, 0, none⟩) n cap)) (zu : Z.drew.cell? ⟨sb, u, none⟩ = some (.int .i64 s1)) (zc : Z.drew.cell? ⟨c7, u, none⟩ = some (.int .i64 cu))
    {of oc : Value} (yf : Z.drew.cell? ⟨sb, f', none⟩ = some of) (yd : Z.drew.cell? ⟨c7, f', none⟩ = some oc) (ff : Z.drew.frozen? ⟨sb, f', none⟩ = false) (fd : Z.drew.frozen? ⟨c7, f', none⟩ = false)
    (h : ∀ v52 v53 v54 v55 v56 v57 v58 v59 v60 v61 v62 v63 v64 v65 v66 v67 v68 v69 : Value, Q .normal { tmps := #[t0, t1, t2, .pointer (some ⟨c3, 0, none⟩), t4, t5, t6, .pointer (some ⟨c7, 0, none⟩), t8, t9, .pointer (some ⟨nb, 0, none⟩), t11, .pointer (some ⟨bb, 0, none⟩), t13, t14, t15, t16, t17, t18, t19, t20, t21, t22, t23, t24, t25, t26, t27, t28, t29, t30, t31, t32, t33, t34, t35, t36, t37, t38, t39, t40, t41, t42, t43, t44, t45, t46, t47, t48, t49, t50, t51, v52, v53, v54, v55, v56, v57, v58, v59, v60, v61, v62, v63, v64, v65, v66, v67, v68, v69, t70, t71, t72, t73, t74, t75, t76, t77, t78, t79, t80, t81, t82, t83, t84, t85, t86, t87, t88, t89], defers := D } (((Z.setCell ⟨sb, f', none⟩ (.int .i64 (s1 + mo))).setCell ⟨c7, f', none⟩ (.int .i64 (cu + 1))).drew)) :
    (Code.region 18 #[⟨some 52, .load 41 (.tmp 3), 41, "graph.go:112", #[], none⟩, ⟨some 53, .fieldAddr 54 (.tmp 12) 0, 0, "graph.go:112", #[], none⟩, ⟨some 54, .load 3 (.tmp 53), 3, "graph.go:112", #[⟨1, .data⟩], none⟩, ⟨some 55, .fieldAddr 54 (.tmp 12) 0, 0, "graph.go:112", #[⟨17, .gcOnly .lateStores⟩], none⟩, ⟨some 56, .load 3 (.tmp 55), 3, "graph.go:112", #[⟨3, .data⟩, ⟨17, .gcOnly .lateStores⟩], none⟩, ⟨some 57, .load 41 (.tmp 3), 41, "graph.go:112", #[], none⟩, ⟨some 58, .load 3 (.tmp 10), 3, "graph.go:112", #[], none⟩, ⟨some 59, .indexAddr 41 (.tmp 57) (.tmp 58), 0, "graph.go:112", #[⟨5, .data⟩, ⟨6, .data⟩], none⟩, ⟨some 60, .load 3 (.tmp 59), 3, "graph.go:112", #[⟨7, .data⟩], none⟩, ⟨some 61, .fieldAddr 54 (.tmp 12) 2, 0, "graph.go:112", #[], none⟩, ⟨some 62, .load 3 (.tmp 61), 3, "graph.go:112", #[⟨9, .data⟩], none⟩, ⟨some 63, .binOp .add 3 (.tmp 60) (.tmp 62) 3, 3, "graph.go:112", #[⟨8, .data⟩, ⟨10, .data⟩], none⟩, ⟨some 64, .load 3 (.tmp 10), 3, "graph.go:112", #[], none⟩, ⟨some 65, .indexAddr 122 (.tmp 7) (.tmp 64), 0, "graph.go:112", #[⟨12, .data⟩], none⟩, ⟨some 66, .load 3 (.tmp 65), 3, "graph.go:112", #[⟨13, .data⟩], none⟩, ⟨some 67, .binOp .add 3 (.tmp 66) (.const (Value.int .i64 1)) 3, 3, "graph.go:112", #[⟨14, .data⟩], none⟩, ⟨some 68, .indexAddr 41 (.tmp 52) (.tmp 54), 0, "graph.go:112", #[⟨0, .data⟩, ⟨2, .data⟩, ⟨0, .phase⟩, ⟨1, .phase⟩, ⟨2, .phase⟩, ⟨3, .textOnly .lateStores⟩, ⟨4, .textOnly .lateStores⟩, ⟨5, .phase⟩, ⟨6, .phase⟩, ⟨7, .phase⟩, ⟨8, .phase⟩, ⟨9, .phase⟩, ⟨10, .phase⟩, ⟨11, .phase⟩, ⟨12, .textOnly .lateStores⟩, ⟨13, .textOnly .lateStoresUnsure⟩, ⟨14, .textOnly .lateStoresUnsure⟩, ⟨15, .textOnly .lateStoresUnsure⟩], none⟩, ⟨none, .store 3 (.tmp 68) (.tmp 63), 0, "graph.go:112", #[⟨16, .data⟩, ⟨11, .data⟩, ⟨0, .phase⟩, ⟨1, .phase⟩, ⟨2, .phase⟩, ⟨3, .textOnly .lateStores⟩, ⟨4, .textOnly .lateStores⟩, ⟨5, .phase⟩, ⟨6, .phase⟩, ⟨7, .phase⟩, ⟨8, .phase⟩, ⟨9, .phase⟩, ⟨10, .phase⟩, ⟨11, .phase⟩, ⟨12, .textOnly .lateStores⟩, ⟨13, .textOnly .lateStoresUnsure⟩, ⟨14, .textOnly .lateStoresUnsure⟩, ⟨15, .textOnly .lateStoresUnsure⟩], none⟩, ⟨some 69, .indexAddr 122 (.tmp 7) (.tmp 56), 0, "graph.go:112", #[⟨4, .data⟩, ⟨0, .phase⟩, ⟨1, .phase⟩, ⟨2, .phase⟩, ⟨3, .phase⟩, ⟨4, .phase⟩, ⟨5, .phase⟩, ⟨6, .phase⟩, ⟨7, .phase⟩, ⟨8, .phase⟩, ⟨9, .phase⟩, ⟨10, .phase⟩, ⟨11, .phase⟩, ⟨12, .phase⟩, ⟨13, .phase⟩, ⟨14, .phase⟩, ⟨15, .phase⟩, ⟨16, .phase⟩, ⟨17, .phase⟩], none⟩, ⟨none, .store 3 (.tmp 69) (.tmp 67), 0, "graph.go:112", #[⟨18, .data⟩, ⟨15, .data⟩, ⟨17, .chain⟩, ⟨0, .phase⟩, ⟨1, .phase⟩, ⟨2, .phase⟩, ⟨3, .phase⟩, ⟨4, .phase⟩, ⟨5, .phase⟩, ⟨6, .phase⟩, ⟨7, .phase⟩, ⟨8, .phase⟩, ⟨9, .phase⟩, ⟨10, .phase⟩, ⟨11, .phase⟩, ⟨12, .phase⟩, ⟨13, .phase⟩, ⟨14, .phase⟩, ⟨15, .phase⟩, ⟨16, .phase⟩, ⟨17, .phase⟩], none⟩] true).wpIn (Fence.wide.inRound r) k Tryz.prog Q { tmps := #[t0, t1, t2, .pointer (some ⟨c3, 0, none⟩), t4, t5, t6, .pointer (some ⟨c7, 0, none⟩), t8, t9, .pointer (some ⟨nb, 0, none⟩), t11, .pointer (some ⟨bb, 0, none⟩), t13, t14, t15, t16, t17, t18, t19, t20, t21, t22, t23, t24, t25, t26, t27, t28, t29, t30, t31, t32, t33, t34, t35, t36, t37, t38, t39, t40, t41, t42, t43, t44, t45, t46, t47, t48, t49, t50, t51, t52, t53, t54, t55, t56, t57, t58, t59, t60, t61, t62, t63, t64, t65, t66, t67, t68, t69, t70, t71, t72, t73, t74, t75, t76, t77, t78, t79, t80, t81, t82, t83, t84, t85, t86, t87, t88, t89], defers := D } Z := by
  refine held_round (S := fun W' => W'.cell? ⟨bb, 0, none⟩ = some (.int .i64 (f' : Int)) ∧ W'.cell? ⟨bb, 2, none⟩ = some (.int .i64 mo) ∧ W'.cell? ⟨nb, 0, none⟩ = some (.int .i64 (u : Int)) ∧ W'.cell? ⟨c3, 0, none⟩ = some (.slice (some ⟨sb, 0, none⟩) n cap)) hQ rfl (by kernel_rfl) ⟨z0, z2, zn, zr⟩ ?go
  intro hHeld
  have k1 : (Z.setCell ⟨sb, f', none⟩ (.int .i64 (s1 + mo))).drew.cell? ⟨c7, u, none⟩ = some (.int .i64 cu) := cell_set_ne zc n7.symm
  have k2 : (Z.setCell ⟨sb, f', none⟩ (.int .i64 (s1 + mo))).drew.cell? ⟨c7, f', none⟩ = some oc := cell_set_ne yd n7.symm
  have k3 : (Z.setCell ⟨sb, f', none⟩ (.int .i64 (s1 + mo))).drew.frozen? ⟨c7, f', none⟩ = false := by simpa using fd
  refine wpAnyH_take (i := 0) (v := ?_) rfl (by kernel_rfl) (by kernel_rfl) (by kernel_rfl) (hQ2 _ _) (Or.inl ⟨by rfl, fun w' hSw => by (dsimp only at hSw); go_split_ands; go_simp; try with_reducible rfl⟩) (by assumption) ?_
  try simp only [Act.put, List.setIfInBounds_toArray, List.set_cons_zero, List.set_cons_succ]
  refine wpAnyH_take (i := 1) (v := ?_) rfl (by kernel_rfl) (by kernel_rfl) (by kernel_rfl) (hQ2 _ _) (Or.inl ⟨by rfl, fun w' hSw => by (dsimp only at hSw); go_split_ands; go_simp; try with_reducible rfl⟩) (by assumption) ?_
  try simp only [Act.put, List.setIfInBounds_toArray, List.set_cons_zero, List.set_cons_succ]
  refine wpAnyH_take (i := 2) (v := ?_) rfl (by kernel_rfl) (by kernel_rfl) (by kernel_rfl) (hQ2 _ _) (Or.inl ⟨by rfl, fun w' hSw => by (dsimp only at hSw); go_split_ands; go_simp; try with_reducible rfl⟩) (by assumption) ?_
  try simp only [Act.put, List.setIfInBounds_toArray, List.set_cons_zero, List.set_cons_succ]
  refine wpAnyH_take (i := 3) (v := ?_) rfl (by kernel_rfl) (by kernel_rfl) (by kernel_rfl) (hQ2 _ _) (Or.inl ⟨by rfl, fun w' hSw => by (dsimp only at hSw); go_split_ands; go_simp; try with_reducible rfl⟩) (by assumption) ?_
  try simp only [Act.put, List.setIfInBounds_toArray, List.set_cons_zero, List.set_cons_succ]
  refine wpAnyH_take (i := 4) (v := ?_) rfl (by kernel_rfl) (by kernel_rfl) (by kernel_rfl) (hQ2 _ _) (Or.inl ⟨by rfl, fun w' hSw => by (dsimp only at hSw); go_split_ands; go_simp; try with_reducible rfl⟩) (by assumption) ?_
  try simp only [Act.put, List.setIfInBounds_toArray, List.set_cons_zero, List.set_cons_succ]
  refine wpAnyH_take (i := 5) (v := ?_) rfl (by kernel_rfl) (by kernel_rfl) (by kernel_rfl) (hQ2 _ _) (Or.inl ⟨by rfl, fun w' hSw => by (dsimp only at hSw); go_split_ands; go_simp; try with_reducible rfl⟩) (by assumption) ?_
  try simp only [Act.put, List.setIfInBounds_toArray, List.set_cons_zero, List.set_cons_succ]
  refine wpAnyH_take (i := 6) (v := ?_) rfl (by kernel_rfl) (by kernel_rfl) (by kernel_rfl) (hQ2 _ _) (Or.inl ⟨by rfl, fun w' hSw => by (dsimp only at hSw); go_split_ands; go_simp; try with_reducible rfl⟩) (by assumption) ?_
  try simp only [Act.put, List.setIfInBounds_toArray, List.set_cons_zero, List.set_cons_succ]
  refine wpAnyH_take (i := 7) (v := ?_) rfl (by kernel_rfl) (by kernel_rfl) (by kernel_rfl) (hQ2 _ _) (Or.inl ⟨by rfl, fun w' hSw => by (dsimp only at hSw); go_split_ands; go_simp; try with_reducible rfl⟩) (by assumption) ?_
  try simp only [Act.put, List.setIfInBounds_toArray, List.set_cons_zero, List.set_cons_succ]
  refine wpAnyH_take (i := 9) (v := ?_) rfl (by kernel_rfl) (by kernel_rfl) (by kernel_rfl) (hQ2 _ _) (Or.inl ⟨by rfl, fun w' hSw => by (dsimp only at hSw); go_split_ands; go_simp; try with_reducible rfl⟩) (by assumption) ?_
  try simp only [Act.put, List.setIfInBounds_toArray, List.set_cons_zero, List.set_cons_succ]
  refine wpAnyH_take (i := 10) (v := ?_) rfl (by kernel_rfl) (by kernel_rfl) (by kernel_rfl) (hQ2 _ _) (Or.inl ⟨by rfl, fun w' hSw => by (dsimp only at hSw); go_split_ands; go_simp; try with_reducible rfl⟩) (by assumption) ?_
  try simp only [Act.put, List.setIfInBounds_toArray, List.set_cons_zero, List.set_cons_succ]
  refine wpAnyH_take (i := 12) (v := ?_) rfl (by kernel_rfl) (by kernel_rfl) (by kernel_rfl) (hQ2 _ _) (Or.inl ⟨by rfl, fun w' hSw => by (dsimp only at hSw); go_split_ands; go_simp; try with_reducible rfl⟩) (by assumption) ?_
  try simp only [Act.put, List.setIfInBounds_toArray, List.set_cons_zero, List.set_cons_succ]
  refine wpAnyH_take (i := 13) (v := ?_) rfl (by kernel_rfl) (by kernel_rfl) (by kernel_rfl) (hQ2 _ _) (Or.inl ⟨by rfl, fun w' hSw => by (dsimp only at hSw); go_split_ands; go_simp; try with_reducible rfl⟩) (by assumption) ?_
  try simp only [Act.put, List.setIfInBounds_toArray, List.set_cons_zero, List.set_cons_succ]
  refine wpAnyH_ready (rs := [8, 14]) (by kernel_rfl) (by simp) ?_
  refine AllReadyH.cons rfl (fun Kx hKx => ?_) (AllReadyH.cons rfl (fun Kx hKx => ?_) AllReadyH.nil)
  · go_simp
    refine hKx.out _ _ ?_ (fun hHeld => ?_)
    · exact hHeld
    try simp only [Act.put, List.setIfInBounds_toArray, List.set_cons_zero, List.set_cons_succ]
    refine wpAnyH_take (i := 11) (v := ?_) rfl (by kernel_rfl) (by kernel_rfl) (by kernel_rfl) (hQ2 _ _) (Or.inl ⟨by rfl, fun w' hSw => by (dsimp only at hSw); go_split_ands; go_simp; try with_reducible rfl⟩) (by assumption) ?_
    try simp only [Act.put, List.setIfInBounds_toArray, List.set_cons_zero, List.set_cons_succ]
    refine wpAnyH_take (i := 16) (v := ?_) rfl (by kernel_rfl) (by kernel_rfl) (by kernel_rfl) (hQ2 _ _) (Or.inl ⟨by rfl, fun w' hSw => by (dsimp only at hSw); go_split_ands; go_simp; try with_reducible rfl⟩) (by assumption) ?_
    try simp only [Act.put, List.setIfInBounds_toArray, List.set_cons_zero, List.set_cons_succ]
    refine wpAnyH_ready (rs := [14, 17]) (by kernel_rfl) (by simp) ?_
    refine AllReadyH.cons rfl (fun Kx hKx => ?_) (AllReadyH.cons rfl (fun Kx hKx => ?_) AllReadyH.nil)
    · go_simp
      refine hKx.out _ _ ?_ (fun hHeld => ?_)
      · exact hHeld
      try simp only [Act.put, List.setIfInBounds_toArray, List.set_cons_zero, List.set_cons_succ]
      refine wpAnyH_take (i := 15) (v := ?_) rfl (by kernel_rfl) (by kernel_rfl) (by kernel_rfl) (hQ2 _ _) (Or.inl ⟨by rfl, fun w' hSw => by (dsimp only at hSw); go_split_ands; go_simp; try with_reducible rfl⟩) (by assumption) ?_
      try simp only [Act.put, List.setIfInBounds_toArray, List.set_cons_zero, List.set_cons_succ]
      refine wpAnyH_ready (rs := [17]) (by kernel_rfl) (by simp) ?_
      refine AllReadyH.cons rfl (fun Kx hKx => ?_) AllReadyH.nil
      · go_simp
        refine hKx.out _ _ ?_ (fun hHeld => ?_)
        · exact ⟨cell_set_ne hHeld.1 n1, cell_set_ne hHeld.2.1 n1, cell_set_ne hHeld.2.2.1 n2, cell_set_ne hHeld.2.2.2 n3⟩
        try simp only [Act.put, List.setIfInBounds_toArray, List.set_cons_zero, List.set_cons_succ]
        refine wpAnyH_take (i := 18) (v := ?_) rfl (by kernel_rfl) (by kernel_rfl) (by kernel_rfl) (hQ2 _ _) (Or.inl ⟨by rfl, fun w' hSw => by (dsimp only at hSw); go_split_ands; go_simp; try with_reducible rfl⟩) (by assumption) ?_
        try simp only [Act.put, List.setIfInBounds_toArray, List.set_cons_zero, List.set_cons_succ]
        refine wpAnyH_ready (rs := [19]) (by kernel_rfl) (by simp) ?_
        refine AllReadyH.cons rfl (fun Kx hKx => ?_) AllReadyH.nil
        · go_simp
          refine hKx.out _ _ ?_ (fun hHeld => ?_)
          · exact ⟨cell_set_ne hHeld.1 n4, cell_set_ne hHeld.2.1 n4, cell_set_ne hHeld.2.2.1 n5, cell_set_ne hHeld.2.2.2 n6⟩
          try simp only [Act.put, List.setIfInBounds_toArray, List.set_cons_zero, List.set_cons_succ]
          exact wpAnyH_done (by kernel_rfl) (h _ _ _ _ _ _ _ _ _ _ _ _ _ _ _ _ _ _) _
    · go_simp
      refine hKx.out _ _ ?_ (fun hHeld => ?_)
      · exact ⟨cell_set_ne hHeld.1 n1, cell_set_ne hHeld.2.1 n1, cell_set_ne hHeld.2.2.1 n2, cell_set_ne hHeld.2.2.2 n3⟩
      try simp only [Act.put, List.setIfInBounds_toArray, List.set_cons_zero, List.set_cons_succ]
      refine wpAnyH_ready (rs := [14]) (by kernel_rfl) (by simp) ?_
      refine AllReadyH.cons rfl (fun Kx hKx => ?_) AllReadyH.nil
      · go_simp
        refine hKx.out _ _ ?_ (fun hHeld => ?_)
        · exact hHeld
        try simp only [Act.put, List.setIfInBounds_toArray, List.set_cons_zero, List.set_cons_succ]
        refine wpAnyH_take (i := 15) (v := ?_) rfl (by kernel_rfl) (by kernel_rfl) (by kernel_rfl) (hQ2 _ _) (Or.inl ⟨by rfl, fun w' hSw => by (dsimp only at hSw); go_split_ands; go_simp; try with_reducible rfl⟩) (by assumption) ?_
        try simp only [Act.put, List.setIfInBounds_toArray, List.set_cons_zero, List.set_cons_succ]
        refine wpAnyH_take (i := 18) (v := ?_) rfl (by kernel_rfl) (by kernel_rfl) (by kernel_rfl) (hQ2 _ _) (Or.inl ⟨by rfl, fun w' hSw => by (dsimp only at hSw); go_split_ands; go_simp; try with_reducible rfl⟩) (by assumption) ?_
        try simp only [Act.put, List.setIfInBounds_toArray, List.set_cons_zero, List.set_cons_succ]
        refine wpAnyH_ready (rs := [19]) (by kernel_rfl) (by simp) ?_
        refine AllReadyH.cons rfl (fun Kx hKx => ?_) AllReadyH.nil
        · go_simp
          refine hKx.out _ _ ?_ (fun hHeld => ?_)
          · exact ⟨cell_set_ne hHeld.1 n4, cell_set_ne hHeld.2.1 n4, cell_set_ne hHeld.2.2.1 n5, cell_set_ne hHeld.2.2.2 n6⟩
          try simp only [Act.put, List.setIfInBounds_toArray, List.set_cons_zero, List.set_cons_succ]
          exact wpAnyH_done (by kernel_rfl) (h _ _ _ _ _ _ _ _ _ _ _ _ _ _ _ _ _ _) _
  · go_simp
    refine hKx.out _ _ ?_ (fun hHeld => ?_)
    · exact hHeld
    try simp only [Act.put, List.setIfInBounds_toArray, List.set_cons_zero, List.set_cons_succ]
    refine wpAnyH_take (i := 15) (v := ?_) rfl (by kernel_rfl) (by kernel_rfl) (by kernel_rfl) (hQ2 _ _) (Or.inl ⟨by rfl, fun w' hSw => by (dsimp only at hSw); go_split_ands; go_simp; try with_reducible rfl⟩) (by assumption) ?_
    try simp only [Act.put, List.setIfInBounds_toArray, List.set_cons_zero, List.set_cons_succ]
    refine wpAnyH_ready (rs := [8]) (by kernel_rfl) (by simp) ?_
    refine AllReadyH.cons rfl (fun Kx hKx => ?_) AllReadyH.nil
    · go_simp
      refine hKx.out _ _ ?_ (fun hHeld => ?_)
      · exact hHeld
      try simp only [Act.put, List.setIfInBounds_toArray, List.set_cons_zero, List.set_cons_succ]
      refine wpAnyH_take (i := 11) (v := ?_) rfl (by kernel_rfl) (by kernel_rfl) (by kernel_rfl) (hQ2 _ _) (Or.inl ⟨by rfl, fun w' hSw => by (dsimp only at hSw); go_split_ands; go_simp; try with_reducible rfl⟩) (by assumption) ?_
      try simp only [Act.put, List.setIfInBounds_toArray, List.set_cons_zero, List.set_cons_succ]
      refine wpAnyH_take (i := 16) (v := ?_) rfl (by kernel_rfl) (by kernel_rfl) (by kernel_rfl) (hQ2 _ _) (Or.inl ⟨by rfl, fun w' hSw => by (dsimp only at hSw); go_split_ands; go_simp; try with_reducible rfl⟩) (by assumption) ?_
      try simp only [Act.put, List.setIfInBounds_toArray, List.set_cons_zero, List.set_cons_succ]
      refine wpAnyH_ready (rs := [17]) (by kernel_rfl) (by simp) ?_
      refine AllReadyH.cons rfl (fun Kx hKx => ?_) AllReadyH.nil
      · go_simp
        refine hKx.out _ _ ?_ (fun hHeld => ?_)
        · exact ⟨cell_set_ne hHeld.1 n1, cell_set_ne hHeld.2.1 n1, cell_set_ne hHeld.2.2.1 n2, cell_set_ne hHeld.2.2.2 n3⟩
        try simp only [Act.put, List.setIfInBounds_toArray, List.set_cons_zero, List.set_cons_succ]
        refine wpAnyH_take (i := 18) (v := ?_) rfl (by kernel_rfl) (by kernel_rfl) (by kernel_rfl) (hQ2 _ _) (Or.inl ⟨by rfl, fun w' hSw => by (dsimp only at hSw); go_split_ands; go_simp; try with_reducible rfl⟩) (by assumption) ?_
        try simp only [Act.put, List.setIfInBounds_toArray, List.set_cons_zero, List.set_cons_succ]
        refine wpAnyH_ready (rs := [19]) (by kernel_rfl) (by simp) ?_
        refine AllReadyH.cons rfl (fun Kx hKx => ?_) AllReadyH.nil
        · go_simp
          refine hKx.out _ _ ?_ (fun hHeld => ?_)
          · exact ⟨cell_set_ne hHeld.1 n4, cell_set_ne hHeld.2.1 n4, cell_set_ne hHeld.2.2.1 n5, cell_set_ne hHeld.2.2.2 n6⟩
          try simp only [Act.put, List.setIfInBounds_toArray, List.set_cons_zero, List.set_cons_succ]
          exact wpAnyH_done (by kernel_rfl) (h _ _ _ _ _ _ _ _ _ _ _ _ _ _ _ _ _ _) _
end Go.Proofs.YtemacokojdeimaaGreatDoor

/- The contract of package chain's settle. -/
namespace Go.Proofs.YtemacokojdeimaaGreatDoor
open Go.RowKit Go.Shelf
attribute [local go_sem] Oper.semAt_some

theorem row_repl (W : World) (z : Value) (k : Nat) (T : TypeId) : (W.alloc (Obj.cells (Array.replicate k z) T)).rowIs W.heap.size T k (fun _ => z) := by
  have h := World.rowIs_alloc W (Array.replicate k z) T (fun _ => z) (fun i hi => by rw [Array.getElem?_replicate, if_pos (by simpa using hi)])
  rw [Array.size_replicate] at h
  exact h

theorem start0_w (s : List Int) (i : Nat) : (Ch.start0 s 0).w.getD i false = false := by
  unfold Ch.start0
  by_cases h : i < 60
  · show ((List.range 60).map fun v => decide (v < 0) && s.getD v 0 != Ch.free).getD i false = false
    rw [Ch.w_at h]; simp
  · rw [List.getD, List.getElem?_eq_none (by simp; omega)]; rfl
theorem start0_c (s : List Int) (k i : Nat) : (Ch.start0 s k).c.getD i 0 = 0 := by
  show (List.replicate 60 (0 : Int)).getD i 0 = 0
  rw [List.getD, List.getElem?_replicate]
  split <;> rfl

/-- settle's memory at the start -/
theorem ss_start {w : World} {sb N n cap gb : Nat} {s : List Int} {f : Nat → Value} (hN : n ≤ N) (hr : w.rowIs sb 3 N f) (hf : ∀ i, i < n → f i = .int .i64 (s.getD i 0)) :
    SS w w.heap.size sb N n cap gb (Ch.start0 s 0) none [] ((((((w.alloc (Obj.cells #[.pointer (some ⟨gb, 0, none⟩)] 67)).alloc (Obj.cells #[.slice (some ⟨sb, 0, none⟩) n cap] 41)).alloc (Obj.cells #[.bool false] 4)).alloc (Obj.cells #[.slice none 0 0] 120)).alloc (Obj.cells (Array.replicate 60 (.bool false)) 121)).alloc (Obj.cells (Array.replicate 60 (.int .i64 0)) 122)) := by
  have one : ∀ (W : World) (z : Value) (T : TypeId), (W.alloc (Obj.cells #[z] T)).rowIs W.heap.size T 1 (fun _ => z) := fun W z T => row_repl W z 1 T
  generalize hA : w.alloc (Obj.cells #[.pointer (some ⟨gb, 0, none⟩)] 67) = A
  have zA : A.heap.size = w.heap.size + 1 := by rw [← hA]; simp
  generalize hB : A.alloc (Obj.cells #[.slice (some ⟨sb, 0, none⟩) n cap] 41) = B
  have zB : B.heap.size = w.heap.size + 2 := by rw [← hB]; simp [zA]
  generalize hC : B.alloc (Obj.cells #[.bool false] 4) = C
  have zC : C.heap.size = w.heap.size + 3 := by rw [← hC]; simp [zB]
  generalize hD : C.alloc (Obj.cells #[.slice none 0 0] 120) = D
  have zD : D.heap.size = w.heap.size + 4 := by rw [← hD]; simp [zC]
  generalize hE : D.alloc (Obj.cells (Array.replicate 60 (.bool false)) 121) = E
  have zE : E.heap.size = w.heap.size + 5 := by rw [← hE]; simp [zD]
  have r0 := one w (.pointer (some ⟨gb, 0, none⟩)) 67
  rw [hA] at r0
  have r1 := one A (.slice (some ⟨sb, 0, none⟩) n cap) 41
  rw [hB, zA] at r1
  have r2 := one B (.bool false) 4
  rw [hC, zB] at r2
  have r3 := one C (.slice none 0 0) 120
  rw [hD, zC] at r3
  have r4 := row_repl D (.bool false) 60 121
  rw [hE, zD] at r4
  have r5 := row_repl E (.int .i64 0) 60 122
  rw [zE] at r5
  have bA : Below w.heap.size w A := by rw [← hA]; exact (Below.refl _ _).alloc (Nat.le_refl _) _
  have bB : Below w.heap.size w B := by rw [← hB]; exact bA.alloc bA.size _
  have bC : Below w.heap.size w C := by rw [← hC]; exact bB.alloc bB.size _
  have bD : Below w.heap.size w D := by rw [← hD]; exact bC.alloc bC.size _
  have bE : Below w.heap.size w E := by rw [← hE]; exact bD.alloc bD.size _
  have kAB : ∀ {b : Nat} {T : TypeId} {k : Nat} {g : Nat → Value}, A.rowIs b T k g → B.rowIs b T k g := fun h => by rw [← hB]; exact h.alloc _
  have kBC : ∀ {b : Nat} {T : TypeId} {k : Nat} {g : Nat → Value}, B.rowIs b T k g → C.rowIs b T k g := fun h => by rw [← hC]; exact h.alloc _
  have kCD : ∀ {b : Nat} {T : TypeId} {k : Nat} {g : Nat → Value}, C.rowIs b T k g → D.rowIs b T k g := fun h => by rw [← hD]; exact h.alloc _
  have kDE : ∀ {b : Nat} {T : TypeId} {k : Nat} {g : Nat → Value}, D.rowIs b T k g → E.rowIs b T k g := fun h => by rw [← hE]; exact h.alloc _
  refine ⟨rfl, hr.lt, hN, (kDE (kCD (kBC (kAB r0)))).alloc _, (kDE (kCD (kBC r1))).alloc _, (kDE (kCD r2)).alloc _, ?_, fun g e => (by cases e), (r4.alloc _).congr (fun i _ => by rw [start0_w]), r5.congr (fun i _ => by rw [start0_c]), ⟨f, (Below.row bE hr).alloc _, hf⟩, fun r hr => by simp at hr, .of_below (bE.alloc bE.size _)⟩
  exact ⟨none, 0, (kDE r3).alloc _, Nat.le_refl _, .inl ⟨rfl, rfl, rfl⟩⟩

theorem start0_ok {n : Nat} {s : List Int} (n1 : 1 ≤ n) (n2 : n ≤ 60) (hs : Hid (s.length = n)) (hb : Hid (∀ i, i < n → 0 ≤ s.getD i 0 ∧ s.getD i 0 ≤ 1152921504606846976)) (k : Nat) (hk : k ≤ n) : Ch.WF n (Ch.start0 s k) := Ch.start0_wf n1 n2 hs.out hb.out k hk

set_option maxRecDepth 100000 in
set_option maxHeartbeats 4000000 in
theorem settle_any (n gb sb N cap : Nat) (n1 : 1 ≤ n) (n2 : n ≤ 60) (hN : n ≤ N) (s : List Int) (hs : Hid (s.length = n)) (L : List Ch.Lk) (drop : List Bool) (fuel : Nat) (R : Option (List Int)) (hR : Hid (Ch.settle n L drop fuel s = some R)) (H ib db m : Nat) (a : Option Addr) (cap0 : Nat) (V : Nat → Value) (hsbH : H ≤ sb) (w : World) (G : Hid (Gr w H gb ib db n m a cap0 V L (fun i => drop.getD i false))) (f : Nat → Value) (hr : Hid (w.rowIs sb 3 N f)) (hf : Hid (∀ i, i < n → f i = .int .i64 (s.getD i 0))) (hb : Hid (∀ i, i < n → 0 ≤ s.getD i 0 ∧ s.getD i 0 ≤ 1152921504606846976)) :
    Calls Tryz.prog 58 #[.pointer (some ⟨gb, 0, none⟩), .slice (some ⟨sb, 0, none⟩) n cap] w (SetPost w sb N n R) := by
  refine (callsIn_wide (n := 7)).1 ?_
  refine callsIn_of_wp_marks Tryz.func58 rfl trivial ?_ rfl
  simp only [Tryz.ntmps58, List.size_toArray, List.length_cons, List.length_nil, Nat.reduceAdd, Nat.reduceSub, Array.replicate_succ, Array.replicate_zero, List.push_toArray, List.append_toArray, List.nil_append, List.cons_append]
  gi_wp2_with fail
  gi_loopw [15] (fun i wr => ∃ (k : Nat) (go : Option Nat), k ≤ n ∧ i = .int .i64 k ∧ Hid (SS w w.heap.size sb N n cap gb (Ch.start0 s k) go [] wr)) (fun i _ => n - (RowKit.intOf i).toNat)
  case atStart => exact ⟨0, none, Nat.zero_le _, rfl, Lib.hid (ss_start hN hr.out hf.out)⟩
  case round =>
    obtain ⟨k, go, hk, rfl, HS⟩ := hrel
    by_cases hlt : k < n
    · obtain ⟨f2, s1, s2⟩ := HS.out.sm
      have hc := s1.cell (i := k) (by have := HS.out.hN; omega)
      have hsk : f2 k = .int .i64 (s.getD k 0) := s2 k hlt
      rw [hsk] at hc
      have hmiss := fun h => Ch.start0_miss (s := s) (k := k) h
      have hhit := fun h => Ch.start0_hit (s := s) (k := k) h
      have hbk := hb.out k hlt
      obtain ⟨z, hz⟩ : ∃ z, s.getD k 0 = z := ⟨_, rfl⟩
      rw [hz] at hc hmiss hhit hbk
      clear s1 s2 hsk
      replace hz := Lib.hid hz
      have hi5 : (k : Int) < (n : Int) := by omega
      by_cases hfree : z = 1152921504606846976
      · subst hfree
        replace hmiss := Lib.hid (hmiss rfl)
        clear hhit
        gi_wp2
        go_roundw
        case rel => exact ⟨k + 1, go, by omega, by go_num, Lib.hid (by rw [hmiss.out]; exact HS.out)⟩
        case measure => first | (simp [RowKit.intOf]; done) | (simp [RowKit.intOf]; omega) | omega
      · have hne : (z != 1152921504606846976) = true := by rw [bne_iff_ne]; exact hfree
        replace hhit := Lib.hid (hhit hfree)
        clear hmiss
        have hwf := start0_ok n1 n2 hs hb k hk
        gi_wp2_with fail
        refine ⟨trivial, ?_⟩
        refine (callsIn_wide.2 (put_any _ go (k : Int) ((Ch.start0 s k).q.map fun u : Nat => (u : Int)) (by have := hwf.qlen; simp; omega) wr HS.out.q)).mono ?_
        rintro e w2 ⟨rfl, go', hq2, hb2, hg2⟩
        have H2 := HS.out.queue (q := (Ch.start0 s k).q ++ [k]) (by rw [List.map_append]; exact hq2) hb2 hg2
        have c4 : w2.cell? ⟨w.heap.size + 1 + 1 + 1 + 1, k, none⟩ = some (.bool ((Ch.start0 s k).w.getD k false)) := H2.wt.cell (by omega)
        have c5 : w2.frozen? ⟨w.heap.size + 1 + 1 + 1 + 1, k, none⟩ = false := H2.wt.frozen k
        have H3 := Lib.hid (H2.wait (by simp [Ch.start0]) (v := k) (by omega) true)
        have i6 : (0 : Int) ≤ (k : Int) := by omega
        have i7 : (k : Int) < 60 := by omega
        clear hq2 hb2 hg2 H2 HS hc hwf
        generalize (Ch.start0 s k).w.getD k false = old at c4
        gi_wp2
        go_roundw
        case rel => exact ⟨k + 1, go', by omega, by go_num, Lib.hid (by rw [hhit.out]; exact H3.out)⟩
        case measure => first | (simp [RowKit.intOf]; done) | (simp [RowKit.intOf]; omega) | omega
    · obtain rfl : n = k := by omega
      have hneg : ¬ (n : Int) < (n : Int) := by omega
      have HS0 : Hid (SS w w.heap.size sb N n cap gb (Ch.settle0 s) go [] wr) := Lib.hid (by rw [← Ch.start0_all, hs.out]; exact HS.out)
      clear HS
      -- LOOP2
      gi_wp2
      rename_i Kx Qx Kx1 ax
      clear ax Kx1 Qx Kx
      generalize hQ0 : Exit.inBlock 2 _ = Q0
      replace hQ0 := Lib.hid hQ0
      refine wpIn_loop_ghost_k (fun gk a' W => ∃ (v10 v11 v12 v27 v28 v29 v30 v31 v32 v33 v34 v35 v36 v37 v38 v39 v40 v41 v42 v43 v44 v45 v46 v47 v48 v49 v50 v51 v52 v53 v54 v55 v56 v57 v58 v59 v60 v61 v62 v63 v64 v65 v66 v67 v68 v69 v70 v71 v72 v73 v74 v75 v76 v77 v78 v79 v80 v81 v82 v83 v84 v85 v86 v87 v88 v89 : Value) (x : Ch.St) (go : Option Nat) (rs : List Nat), (Hid (Ch.WF n x) ∧ Hid (Ch.settleGo n L drop gk x = some R) ∧ Hid rs.Nodup ∧ Hid (SS w w.heap.size sb N n cap gb x go rs W)) ∧ a' = { tmps := #[.pointer (some ⟨gb, 0, none⟩), .slice (some ⟨sb, 0, none⟩) n cap, .pointer (some ⟨w.heap.size, 0, none⟩), .pointer (some ⟨w.heap.size + 1, 0, none⟩), .pointer (some ⟨w.heap.size + 1 + 1, 0, none⟩), .pointer (some ⟨w.heap.size + 1 + 1 + 1, 0, none⟩), .pointer (some ⟨w.heap.size + 1 + 1 + 1 + 1, 0, none⟩), .pointer (some ⟨w.heap.size + 1 + 1 + 1 + 1 + 1, 0, none⟩), u8, u9, v10, v11, v12, .slice (some ⟨sb, 0, none⟩) n cap, .int .i64 n, .int .i64 n, .bool false, u17, u18, u19, u20, u21, u22, u23, u24, u25, u26, v27, v28, v29, v30, v31, v32, v33, v34, v35, v36, v37, v38, v39, v40, v41, v42, v43, v44, v45, v46, v47, v48, v49, v50, v51, v52, v53, v54, v55, v56, v57, v58, v59, v60, v61, v62, v63, v64, v65, v66, v67, v68, v69, v70, v71, v72, v73, v74, v75, v76, v77, v78, v79, v80, v81, v82, v83, v84, v85, v86, v87, v88, v89], defers := marks rs }) fuel ?_ ?_
      · refine ⟨_, _, _, _, _, _, _, _, _, _, _, _, _, _, _, _, _, _, _, _, _, _, _, _, _, _, _, _, _, _, _, _, _, _, _, _, _, _, _, _, _, _, _, _, _, _, _, _, _, _, _, _, _, _, _, _, _, _, _, _, _, _, _, _, _, _, Ch.settle0 s, go, [], ⟨?_, ?_, ?_, HS0⟩, rfl⟩
        · exact Lib.hid (by rw [← Ch.start0_all, hs.out]; exact start0_ok n1 n2 hs hb n (Nat.le_refl _))
        · exact Lib.hid hR.out
        · exact Lib.hid List.nodup_nil
      · clear HS0
        rintro gk _ wr ⟨v10, v11, v12, v27, v28, v29, v30, v31, v32, v33, v34, v35, v36, v37, v38, v39, v40, v41, v42, v43, v44, v45, v46, v47, v48, v49, v50, v51, v52, v53, v54, v55, v56, v57, v58, v59, v60, v61, v62, v63, v64, v65, v66, v67, v68, v69, v70, v71, v72, v73, v74, v75, v76, v77, v78, v79, v80, v81, v82, v83, v84, v85, v86, v87, v88, v89, x, go, rs, ⟨HW, HR, HN, HS⟩, rfl⟩ J K hJ hK
        replace hJ := Lib.hid hJ
        replace hK := Lib.hid hK
        cases hq : x.q with
        | nil =>
          have HQ := HS.out.q
          rw [hq] at HQ
          have c2 : wr.cell? ⟨w.heap.size + 1 + 1, 0, none⟩ = some (.bool false) := HS.out.b2.cell (i := 0) (by omega)
          have f2 : wr.frozen? ⟨w.heap.size + 1 + 1, 0, none⟩ = false := HS.out.b2.frozen 0
          have l2 : w.heap.size + 1 + 1 < wr.heap.size := HS.out.b2.lt
          gi_wp2_with fail
          refine ⟨trivial, ?_⟩
          refine (callsIn_wide.2 (take_none _ go wr HQ)).mono ?_
          rintro e w2 ⟨rfl, hw⟩
          subst hw
          clear HQ
          gi_wp2
          have E : R = some x.s := by
            have h := HR.out
            cases gk with
            | zero => simp [Ch.settleGo] at h
            | succ gk =>
              rw [Ch.settleGo, hq] at h
              exact (Option.some.inj h).symm
          subst E
          rw [← hQ0.out]
          exact settle_end (HS.out.fin true _) HN.out rfl
        | cons u q =>
          have HQ := HS.out.q
          rw [hq, List.map_cons] at HQ
          have huq := HW.out.q u (by rw [hq]; exact List.mem_cons_self)
          have u0 : (0 : Int) ≤ (u : Int) := by omega
          have u6 : (u : Int) < 60 := by have := huq.1; omega
          have hun : u < n := huq.1
          gi_wp2_with fail
          refine ⟨trivial, ?_⟩
          refine (callsIn_wide.2 (take_some _ go (u : Int) (q.map fun v : Nat => (v : Int)) wr HQ)).mono ?_
          rintro e w2 ⟨rfl, hq2, hb2⟩
          have H2 := HS.out.queue (q := q) hq2 (hb2.mono (fun _ _ h => .inl h)) (.inl rfl)
          have c4 : w2.cell? ⟨w.heap.size + 1 + 1 + 1 + 1, u, none⟩ = some (.bool (x.w.getD u false)) := H2.wt.cell (by omega)
          have f4 : w2.frozen? ⟨w.heap.size + 1 + 1 + 1 + 1, u, none⟩ = false := H2.wt.frozen u
          have l4 : w.heap.size + 1 + 1 + 1 + 1 < w2.heap.size := H2.wt.lt
          have c0 : w2.cell? ⟨w.heap.size, 0, none⟩ = some (.pointer (some ⟨gb, 0, none⟩)) := H2.b0.cell (i := 0) (by omega)
          have l0 : w.heap.size < w2.heap.size := H2.b0.lt
          have lsz : w.heap.size + 6 ≤ w2.heap.size := H2.ct.lt
          have hgo : Hid (∀ g, go = some g → g < w2.heap.size) := Lib.hid (fun g e => by obtain ⟨_, _, h⟩ := H2.go_cells e; exact h.lt)
          have H3 := Lib.hid ((H2.wait HW.out.w (v := u) (by omega) false).below ((Below.refl _ _).alloc (Nat.le_refl _) (Obj.cells #[.int .i64 (u : Int)] 3)))
          have HW3 := Lib.hid (HW.out.take hq)
          generalize x.w.getD u false = old at c4
          clear HQ hq2 hb2 H2 HS huq
          gi_wp2_with fail
          have nb0 : ((w2.setCell ⟨w.heap.size + 1 + 1 + 1 + 1, u, none⟩ (.bool false)).alloc (Obj.cells #[.int .i64 (u : Int)] 3)).cell? ⟨w2.heap.size, 0, none⟩ = some (.int .i64 (u : Int)) := by simp [go_sem]
          have nbB : w.heap.size + 6 ≤ w2.heap.size := Nat.le_trans (Nat.le_of_eq rfl) lsz
          clear c4 f4 c0 l4 l0 lsz
          have hX2 : ((w2.setCell ⟨w.heap.size + 1 + 1 + 1 + 1, u, none⟩ (.bool false)).alloc (Obj.cells #[.int .i64 (u : Int)] 3)).heap.size = w2.heap.size + 1 := by simp
          generalize (w2.setCell ⟨w.heap.size + 1 + 1 + 1 + 1, u, none⟩ (.bool false)).alloc (Obj.cells #[.int .i64 (u : Int)] 3) = X2 at *
          generalize w2.heap.size = nb at *
          replace hX2 := Lib.hid hX2
          refine ⟨trivial, ?_⟩
          refine (callsIn_wide.2 (linksInto_any gb u _)).mono ?_
          rintro e w3 ⟨rfl, rfl⟩
          gi_wp2_with fail
          obtain ⟨av, cr, hV, _⟩ := G.out.v u hun
          refine range_nextB (fun l : Ch.Lk => Obj.cells #[.int .i64 l.f, .int .i64 l.t, .int .i64 l.m] 54) (enc := lkV) (n := 7) (by omega) (gf := 92) (lb := #[.pointer (some ⟨X2.heap.size, 0, none⟩), .pointer (some ⟨X2.heap.size + 1, 0, none⟩)]) rfl (enters_of Tryz.func92 (by kernel_rfl) rfl)
            (linksInto_hands 6 (by omega) X2.heap.size (X2.heap.size + 1) gb ib db n m u hun a av cap0 cr (Ch.into L u) (Nat.le_trans (into_len L u) (by rw [G.out.hm]; exact G.out.m3)) (fun k hk => by rw [← G.out.hm]; exact into_lt hk) L (fun i => drop.getD i false) _) (Below.refl _ _)
            (RI w _ sb N n cap gb u nb X2.heap.size (X2.heap.size + 1) { x with w := x.w.set u false, q := q } rs) (RX w _ sb N n u { x with w := x.w.set u false, q := q } rs) (ri_own _ _ _ _ _ _ _ _ _ _ _ _ _) (rx_own _ _ _ _ _ _ _ _) ?keep ?init (fun x b => { tmps := #[.pointer (some ⟨gb, 0, none⟩), .slice (some ⟨sb, 0, none⟩) n cap, .pointer (some ⟨w.heap.size, 0, none⟩), .pointer (some ⟨w.heap.size + 1, 0, none⟩), .pointer (some ⟨w.heap.size + 1 + 1, 0, none⟩), .pointer (some ⟨w.heap.size + 1 + 1 + 1, 0, none⟩), .pointer (some ⟨w.heap.size + 1 + 1 + 1 + 1, 0, none⟩), .pointer (some ⟨w.heap.size + 1 + 1 + 1 + 1 + 1, 0, none⟩), u8, u9, .pointer (some ⟨nb, 0, none⟩), .bool true, .pointer (some ⟨b, 0, none⟩), .slice (some ⟨sb, 0, none⟩) n cap, .int .i64 n, .int .i64 n, .bool false, u17, u18, u19, u20, u21, u22, u23, u24, u25, u26, .tuple #[.int .i64 u, .bool true], .tuple #[.int .i64 u, .bool true], .int .i64 u, .bool true, .bool true, .bool false, .int .i64 u, .pointer (some ⟨w.heap.size + 1 + 1 + 1 + 1, u, none⟩), .pointer (some ⟨gb, 0, none⟩), .int .i64 u, .func (.func 92) #[] #[.pointer (some ⟨X2.heap.size, 0, none⟩), .pointer (some ⟨X2.heap.size + 1, 0, none⟩)], lkV x, v39, v40, v41, v42, v43, v44, v45, v46, v47, v48, v49, v50, v51, v52, v53, v54, v55, v56, v57, v58, v59, v60, v61, v62, v63, v64, v65, v66, v67, v68, v69, v70, v71, v72, v73, v74, v75, v76, v77, v78, v79, v80, v81, v82, v83, v84, v85, v86, v87, v88, v89], defers := [] }) ?assign ?body ?done ?stop
          case keep =>
            rintro pre W ⟨y, go', _, _, h3, _, h5, h6, _⟩
            exact (G.out.below (h3.bt.below G.out.hH (fun k hk => by omega))).lk hun hV h5 h6
          case init =>
            have hsz2 : X2.heap.size = nb + 1 := hX2.out
            have e2 : (X2.alloc (Obj.cells #[.pointer (some ⟨gb, 0, none⟩)] 67)).heap.size = X2.heap.size + 1 := by simp
            refine ⟨_, go, rfl, HW3.out, H3.out.below (((Below.refl _ _).alloc (Nat.le_refl _) _).alloc (by rw [e2]; omega) _), cell_alloc (cell_alloc nb0 _) _, by simp [go_sem], by simp [go_sem], fun g e => ?_, fun r hr => ?_, ?_⟩
            · have := hgo.out g e
              exact ⟨by omega, by omega, by omega⟩
            · have := (Array.getElem?_eq_some_iff.1 (H3.out.mks r hr).2).1
              simp; omega
            · simp; omega
          case assign =>
            intro l x' W K' hK'
            obtain ⟨f', t', mo'⟩ := x'
            simp only [lkV] at hK' ⊢
            gi_wp2
            exact hK'
          case body =>
            rintro l pre ⟨f', t', mo'⟩ W r r' ⟨y, go', g1, g2, g3, g4, g5, g6, g7, g8, g9⟩ hpre hl hlr
            obtain ⟨i, hi, hli, htu⟩ := outs_mem hpre
            have hokk : Hid (Ch.okLk n ⟨f', t', mo'⟩ = true) := Lib.hid (by have := G.out.ok i hi; rw [← hli] at this; exact this)
            have hok := Ch.okLk_spec hokk.out
            simp only at htu hok
            subst htu
            obtain ⟨o1, o2, _, _, o5, o6, o7⟩ := hok
            obtain ⟨f'', rfl⟩ : ∃ k : Nat, f' = (k : Int) := ⟨f'.toNat, by omega⟩
            have hfn : f'' < n := by omega
            have hbz : ∀ g, go' = some g → g < W.heap.size := fun g e => by obtain ⟨_, _, h⟩ := g3.go_cells e; exact h.lt
            have hlW : l < W.heap.size := (Array.getElem?_eq_some_iff.1 hlr).1
            have hbA : But (fun k => k = l) W ((W.alloc (Obj.cells #[.int .i64 (f'' : Int), .int .i64 (u : Int), .int .i64 mo'] 54)).putObj l (.loop r')) := ((But.refl _ _).alloc _).trans (but_putObj l _)
            have hgl : ∀ g, go' = some g → g ≠ l := fun g e1 e2 => by
              obtain ⟨_, _, h⟩ := g3.go_cells e1
              obtain ⟨_, h10, _⟩ := h
              rw [e2, hlr] at h10
              cases h10
            have X3 := g3.but hbA (fun k hk e => by omega) (fun g e1 e2 => hgl g e1 e2) (fun r1 hm e => by have := g8 r1 hm; omega)
            have n1l : l ≠ nb := fun e => by
              subst e
              unfold World.cell? at g4
              rw [hlr] at g4
              cases g4
            have Xn := hbA.kept g4 (fun e => n1l e.symm)
            have n5l : l ≠ X2.heap.size := fun e => by
              subst e
              unfold World.cell? at g5
              rw [hlr] at g5
              cases g5
            have X5 := hbA.kept g5 (fun e => n5l e.symm)
            have n6l : l ≠ X2.heap.size + 1 := fun e => by
              subst e
              unfold World.cell? at g6
              rw [hlr] at g6
              cases g6
            have X6 := hbA.kept g6 (fun e => n6l e.symm)
            have Xg := (G.out.below (X3.bt.below G.out.hH (fun k hk => by omega))).g.cell (i := 0) (by omega)
            have B1 : ((W.alloc (Obj.cells #[.int .i64 (f'' : Int), .int .i64 (u : Int), .int .i64 mo'] 54)).putObj l (.loop r')).rowIs W.heap.size 54 3 (fun i => (#[Value.int .i64 (f'' : Int), .int .i64 (u : Int), .int .i64 mo'][i]?).getD undef) :=
              (World.rowIs_alloc W #[.int .i64 (f'' : Int), .int .i64 (u : Int), .int .i64 mo'] 54 _ (fun i hi => by rw [Array.getElem?_eq_getElem hi]; rfl)).of_block ((but_putObj l _).block _ (by simp) (by omega))
            have hwy := Lib.hid g2
            have hX3 := Lib.hid X3
            have q0 := B1.cell (i := 0) (by omega)
            have q1 := B1.cell (i := 1) (by omega)
            have q2 := B1.cell (i := 2) (by omega)
            obtain ⟨fs, s1, s2⟩ := X3.sm
            have su := s1.cell (i := u) (by have := X3.hN; omega)
            have sf := s1.cell (i := f'') (by have := X3.hN; omega)
            rw [s2 u hun] at su
            rw [s2 f'' hfn] at sf
            have r1 : ((W.alloc (Obj.cells #[.int .i64 (f'' : Int), .int .i64 (u : Int), .int .i64 mo'] 54)).putObj l (.loop r')).cell? ⟨w.heap.size + 1, 0, none⟩ = some (.slice (some ⟨sb, 0, none⟩) n cap) := X3.b1.cell (i := 0) (by omega)
            have lou := g2.lo u hun
            have hiu := g2.hi u hun
            have cbu := g2.cb u hun
            obtain ⟨su', hsu⟩ : ∃ z, y.s.getD u 0 = z := ⟨_, rfl⟩
            obtain ⟨sf', hsf⟩ : ∃ z, y.s.getD f'' 0 = z := ⟨_, rfl⟩
            obtain ⟨cu, hcu⟩ : ∃ z, y.c.getD u 0 = z := ⟨_, rfl⟩
            rw [hsu] at su lou hiu
            rw [hcu] at lou cbu
            rw [hsf] at sf
            have hKA : KeepsFrom (((X2.alloc (Obj.cells #[.pointer (some ⟨gb, 0, none⟩)] 67)).alloc (Obj.cells #[.int .i64 (u : Int)] 3)).heap.size) ((W.alloc (Obj.cells #[.int .i64 (f'' : Int), .int .i64 (u : Int), .int .i64 mo'] 54)).putObj l (.loop r')) ((W.alloc (Obj.cells #[.int .i64 (f'' : Int), .int .i64 (u : Int), .int .i64 mo'] 54)).putObj l (.loop r')) := KeepsFrom.refl _ _
            replace hKA := Lib.hid hKA
            have hbb : w.heap.size + 6 ≤ W.heap.size := g3.ct.lt
            clear X3 s1 s2 g3 hli hpre hlr hbA
            generalize (W.alloc (Obj.cells #[.int .i64 (f'' : Int), .int .i64 (u : Int), .int .i64 mo'] 54)).putObj l (.loop r') = X at *
            generalize W.heap.size = bb at *
            by_cases hlow : sf' ≤ su' + mo'
            · have hrx : Hid (Ch.relaxAll n u (pre ++ [⟨(f'' : Int), (u : Int), mo'⟩]) { x with w := x.w.set u false, q := q } = some y) := Lib.hid (by
                rw [Ch.relaxAll_snoc, g1]
                show Ch.relax n u _ y = some y
                unfold Ch.relax
                rw [if_pos (by simp only [Int.toNat_natCast]; rw [hsu, hsf]; exact hlow)])
              clear g1
              gi_wp2_with fail
              refine quiet_round (F := Fence.wide) rfl (by kernel_rfl) (by kernel_rfl) (by kernel_rfl) ?_
              repeat (gi_big_quiet_step (fail))
              refine wpQuietIn_nil ?_
              rintro _ ⟨nq, rfl⟩
              gi_wp2
              exact ⟨⟨Nat.le_refl _, fun _ _ _ h _ => h⟩, ⟨Nat.le_refl _, fun _ _ h _ => h⟩, y, go', hrx.out, hwy.out, hX3.out.below (drewN_below _), Xn, X5, X6, g7, fun r hr => by have := g8 r hr; simpa using this, by simpa using g9⟩
            · have hlow2 : su' + mo' < sf' := by omega
              have hlow3 := Lib.hid hlow
              gi_wp2_with fail
              refine quiet_round (F := Fence.wide) rfl (by kernel_rfl) (by kernel_rfl) (by kernel_rfl) ?_
              repeat (gi_big_quiet_step (fail))
              refine wpQuietIn_nil ?_
              rintro _ ⟨nq, rfl⟩
              gi_wp2_with fail
              have hX4 := Lib.hid (hX3.out.below (drewN_below nq))
              have hXs := Lib.hid ((hX4.out.sum g2.s hfn (su' + mo')).cnt g2.c (v := f'') (by omega) (cu + 1))
              have zu := kept1 su (drewN_below nq)
              have zf := kept1 sf (drewN_below nq)
              have z0 := kept1 q0 (drewN_below nq)
              have z1 := kept1 q1 (drewN_below nq)
              have z2 := kept1 q2 (drewN_below nq)
              have zn := kept1 Xn (drewN_below nq)
              have z5 := kept1 X5 (drewN_below nq)
              have z6 := kept1 X6 (drewN_below nq)
              have zr := kept1 r1 (drewN_below nq)
              have zc : (X.drewN nq).cell? ⟨w.heap.size + 1 + 1 + 1 + 1 + 1, u, none⟩ = some (.int .i64 (y.c.getD u 0)) := hX4.out.ct.cell (by omega)
              have zd : (X.drewN nq).cell? ⟨w.heap.size + 1 + 1 + 1 + 1 + 1, f'', none⟩ = some (.int .i64 (y.c.getD f'' 0)) := hX4.out.ct.cell (by omega)
              have fd : (X.drewN nq).frozen? ⟨w.heap.size + 1 + 1 + 1 + 1 + 1, f'', none⟩ = false := hX4.out.ct.frozen f''
              have ff : (X.drewN nq).frozen? ⟨sb, f'', none⟩ = false := by obtain ⟨_, h, _⟩ := hX4.out.sm; exact h.frozen f''
              rw [hcu] at zc
              have i1 : (0 : Int) ≤ (f'' : Int) := by omega
              have i2 : (f'' : Int) < (n : Int) := by omega
              have i3 : (u : Int) < (n : Int) := by omega
              have i4 : (f'' : Int) < 60 := by omega
              clear su sf q0 q1 q2 Xn X5 X6 r1
              have kk : Hid (KeepsOthers X (X.drewN nq)) := Lib.hid ⟨Nat.le_refl _, fun _ _ h _ => h⟩
              generalize X.drewN nq = Z at *
              -- REGION 18
              have hsbS := hX4.out.hsb
              have w1 : IntKind.i64.wrap (su' + mo') = su' + mo' := wrap_ok (by omega) (by omega)
              have w2' : IntKind.i64.wrap (cu + 1) = cu + 1 := wrap_ok (by omega) (by omega)
              refine reg18 (fun ⟨_, _, h⟩ => h) (fun _ _ _ _ _ h => h) i1 i2 i3 i4 u0 u6 w1 w2' (by omega) (by omega) (by omega) (by omega) (by omega) (by omega) (by omega) z0 z2 zn zr zu zc zf zd ff fd ?_
              intro v52 v53 v54 v55 v56 v57 v58 v59 v60 v61 v62 v63 v64 v65 v66 v67 v68 v69
              have hX5 := Lib.hid (hXs.out.below ((Below.refl _ _).drew))
              have kk5 : Hid (KeepsOthers X (((Z.setCell ⟨sb, f'', none⟩ (.int .i64 (su' + mo'))).setCell ⟨w.heap.size + 1 + 1 + 1 + 1 + 1, f'', none⟩ (.int .i64 (cu + 1))).drew)) := Lib.hid (kk.out.trans ((KeepsOthers.setCell _ _ _).trans ((KeepsOthers.setCell _ _ _).trans (KeepsOthers.drew _))))
              have hX2o := hX2.out
              have y0 : (((Z.setCell ⟨sb, f'', none⟩ (.int .i64 (su' + mo'))).setCell ⟨w.heap.size + 1 + 1 + 1 + 1 + 1, f'', none⟩ (.int .i64 (cu + 1))).drew).cell? ⟨bb, 0, none⟩ = some (.int .i64 (f'' : Int)) := cell_set_ne (W := Z.setCell _ _) (cell_set_ne (W := Z) z0 (by simp; omega)) (by simp; omega)
              have yn : (((Z.setCell ⟨sb, f'', none⟩ (.int .i64 (su' + mo'))).setCell ⟨w.heap.size + 1 + 1 + 1 + 1 + 1, f'', none⟩ (.int .i64 (cu + 1))).drew).cell? ⟨nb, 0, none⟩ = some (.int .i64 (u : Int)) := cell_set_ne (W := Z.setCell _ _) (cell_set_ne (W := Z) zn (by simp; omega)) (by simp; omega)
              have y5 : (((Z.setCell ⟨sb, f'', none⟩ (.int .i64 (su' + mo'))).setCell ⟨w.heap.size + 1 + 1 + 1 + 1 + 1, f'', none⟩ (.int .i64 (cu + 1))).drew).cell? ⟨X2.heap.size, 0, none⟩ = some (.pointer (some ⟨gb, 0, none⟩)) := cell_set_ne (W := Z.setCell _ _) (cell_set_ne (W := Z) z5 (by simp; omega)) (by simp; omega)
              have y6 : (((Z.setCell ⟨sb, f'', none⟩ (.int .i64 (su' + mo'))).setCell ⟨w.heap.size + 1 + 1 + 1 + 1 + 1, f'', none⟩ (.int .i64 (cu + 1))).drew).cell? ⟨X2.heap.size + 1, 0, none⟩ = some (.int .i64 (u : Int)) := cell_set_ne (W := Z.setCell _ _) (cell_set_ne (W := Z) z6 (by simp; omega)) (by simp; omega)
              clear hXs zu zf z0 z1 z2 zn z5 z6 zr zc zd fd ff hX4 hX3 hX2o kk
              generalize (((Z.setCell ⟨sb, f'', none⟩ (.int .i64 (su' + mo'))).setCell ⟨w.heap.size + 1 + 1 + 1 + 1 + 1, f'', none⟩ (.int .i64 (cu + 1))).drew) = Z5 at *
              have yc : Z5.cell? ⟨w.heap.size + 1 + 1 + 1 + 1 + 1, f'', none⟩ = some (.int .i64 (cu + 1)) := by
                have h := hX5.out.ct.cell (i := f'') (by omega)
                have hc60 := g2.c
                rw [Ch.set_same (l := y.c) (i := f'') (by omega)] at h
                exact h
              have yb := hX5.out.b0.cell (i := 0) (by omega)
              have yg : Z5.cell? ⟨gb, 0, none⟩ = some (.int .i64 (n : Int)) := (G.out.below (hX5.out.bt.below G.out.hH (fun k hk => by omega))).g.cell (i := 0) (by omega)
              gi_wp2_with fail
              refine quiet_round (F := Fence.wide) rfl (by kernel_rfl) (by kernel_rfl) (by kernel_rfl) ?_
              repeat (gi_big_quiet_step (fail))
              refine wpQuietIn_nil ?_
              rintro _ ⟨nq, rfl⟩
              have hX6 := Lib.hid (hX5.out.below (drewN_below nq))
              have kk6 : Hid (KeepsOthers X (Z5.drewN nq)) := Lib.hid (kk5.out.trans ⟨Nat.le_refl _, fun _ _ h _ => h⟩)
              have x0 := kept1 y0 (drewN_below nq)
              have xn := kept1 yn (drewN_below nq)
              have x5 := kept1 y5 (drewN_below nq)
              have x6 := kept1 y6 (drewN_below nq)
              clear y0 yn y5 y6 yc yb yg hX5 kk5
              generalize Z5.drewN nq = Z6 at *
              have k2 : Z6.cell? ⟨w.heap.size + 1 + 1, 0, none⟩ = some (.bool false) := hX6.out.b2.cell (i := 0) (by omega)
              have f2 : Z6.frozen? ⟨w.heap.size + 1 + 1, 0, none⟩ = false := hX6.out.b2.frozen 0
              have lX2 := hX2.out
              by_cases hcn : cu + 1 = (n : Int)
              · have hrx : Hid (Ch.relaxAll n u (pre ++ [⟨(f'' : Int), (u : Int), mo'⟩]) { x with w := x.w.set u false, q := q } = none) := Lib.hid (by
                  rw [Ch.relaxAll_snoc, g1]
                  show Ch.relax n u _ y = none
                  unfold Ch.relax
                  rw [if_neg (by simp only [Int.toNat_natCast]; rw [hsu, hsf]; exact Int.not_le.2 hlow3.out), if_pos (by rw [hcu]; exact hcn)])
                clear g1 lX2
                gi_wp2_with fail
                exact ⟨(kk6.out.trans (KeepsOthers.setCell _ _ _)).from _, hrx.out, ⟨_, hX6.out.fin0 false⟩, fun r hr => by have := g8 r hr; simpa using this, by simpa using g9⟩
              · have kw : Z6.cell? ⟨w.heap.size + 1 + 1 + 1 + 1, f'', none⟩ = some (.bool (y.w.getD f'' false)) := hX6.out.wt.cell (by omega)
                have fw : Z6.frozen? ⟨w.heap.size + 1 + 1 + 1 + 1, f'', none⟩ = false := hX6.out.wt.frozen f''
                have e1 : Ch.relax n u ⟨(f'' : Int), (u : Int), mo'⟩ y = if y.w.getD f'' false then some { y with s := y.s.set f'' (su' + mo'), c := y.c.set f'' (cu + 1) } else some ⟨y.s.set f'' (su' + mo'), y.w.set f'' true, y.c.set f'' (cu + 1), y.q ++ [f'']⟩ := by
                  unfold Ch.relax
                  rw [if_neg (by simp only [Int.toNat_natCast]; rw [hsu, hsf]; exact Int.not_le.2 hlow3.out), if_neg (by rw [hcu]; exact hcn)]
                  simp only [Int.toNat_natCast]
                  rw [hsu, hcu]
                clear lX2
                by_cases hwt : y.w.getD f'' false = true
                · rw [if_pos hwt] at e1
                  rw [hwt] at kw
                  have hrx : Hid (Ch.relaxAll n u (pre ++ [⟨(f'' : Int), (u : Int), mo'⟩]) { x with w := x.w.set u false, q := q } = some { y with s := y.s.set f'' (su' + mo'), c := y.c.set f'' (cu + 1) }) := Lib.hid (by
                    rw [Ch.relaxAll_snoc, g1]
                    exact e1)
                  have hwf := Lib.hid (hwy.out.relax hun hokk.out e1)
                  clear e1 g1
                  gi_wp2_with fail
                  exact ⟨kk6.out.from _, kk6.out.walks, _, go', hrx.out, hwf.out, hX6.out, xn, x5, x6, g7, fun r hr => by have := g8 r hr; simpa using this, by simpa using g9⟩
                · have hwt2 : y.w.getD f'' false = false := by simpa using hwt
                  rw [if_neg hwt] at e1
                  rw [hwt2] at kw
                  have hrx : Hid (Ch.relaxAll n u (pre ++ [⟨(f'' : Int), (u : Int), mo'⟩]) { x with w := x.w.set u false, q := q } = some ⟨y.s.set f'' (su' + mo'), y.w.set f'' true, y.c.set f'' (cu + 1), y.q ++ [f'']⟩) := Lib.hid (by
                    rw [Ch.relaxAll_snoc, g1]
                    exact e1)
                  have hwf := Lib.hid (hwy.out.relax hun hokk.out e1)
                  have hX7 := Lib.hid (hX6.out.wait g2.w (v := f'') (by omega) true)
                  have kk7 := Lib.hid (kk6.out.trans (KeepsOthers.setCell Z6 ⟨w.heap.size + 4, f'', none⟩ (.bool true)))
                  have ql := g2.qlen
                  have v0 : (Z6.setCell ⟨w.heap.size + 4, f'', none⟩ (.bool true)).cell? ⟨bb, 0, none⟩ = some (.int .i64 (f'' : Int)) := cell_set_ne (W := Z6) x0 (by simp; omega)
                  have vn : (Z6.setCell ⟨w.heap.size + 4, f'', none⟩ (.bool true)).cell? ⟨nb, 0, none⟩ = some (.int .i64 (u : Int)) := cell_set_ne (W := Z6) xn (by simp; omega)
                  have hX2o := hX2.out
                  have v5 : (Z6.setCell ⟨w.heap.size + 4, f'', none⟩ (.bool true)).cell? ⟨X2.heap.size, 0, none⟩ = some (.pointer (some ⟨gb, 0, none⟩)) := cell_set_ne (W := Z6) x5 (by simp; omega)
                  have v6 : (Z6.setCell ⟨w.heap.size + 4, f'', none⟩ (.bool true)).cell? ⟨X2.heap.size + 1, 0, none⟩ = some (.int .i64 (u : Int)) := cell_set_ne (W := Z6) x6 (by simp; omega)
                  have lvn := Lib.hid (block_lt_of_cell vn)
                  have lv5 := Lib.hid (block_lt_of_cell v5)
                  have lv6 := Lib.hid (block_lt_of_cell v6)
                  clear e1 g1 hX2o
                  gi_wp2_with fail
                  refine ⟨trivial, ?_⟩
                  refine (CallsIn.inRound _ (callsIn_wide.2 (put_any _ go' (f'' : Int) (y.q.map fun u : Nat => (u : Int)) (by simp; omega) _ hX7.out.q))).mono ?_
                  rintro e w2 ⟨rfl, go2, hq2, hb2, hg2⟩
                  have H2 := Lib.hid (hX7.out.queue (q := y.q ++ [f'']) (by rw [List.map_append]; exact hq2) hb2 hg2)
                  have kk8 := Lib.hid (kk7.out.trans (hX7.out.put_others hb2))
                  have nX := hX2.out
                  have un := hb2.kept vn (by rintro (e | e); · (simp at e; omega)
                                             · exact (g7 _ e).1 rfl)
                  have u5 := hb2.kept v5 (by rintro (e | e); · (simp at e; omega)
                                             · exact (g7 _ e).2.1 rfl)
                  have u6 := hb2.kept v6 (by rintro (e | e); · (simp at e; omega)
                                             · exact (g7 _ e).2.2 rfl)
                  have g72 : ∀ g, go2 = some g → g ≠ nb ∧ g ≠ X2.heap.size ∧ g ≠ X2.heap.size + 1 := by
                    intro g e
                    rcases hg2 with hg2 | ⟨g', e2, h1, _⟩
                    · exact g7 g (by rw [← hg2]; exact e)
                    · rw [e] at e2
                      obtain rfl := Option.some.inj e2
                      have a1 := lvn.out
                      have a2 := lv5.out
                      have a3 := lv6.out
                      exact ⟨by rintro rfl; exact absurd a1 (Nat.not_lt.2 h1), by rintro rfl; exact absurd a2 (Nat.not_lt.2 h1), by rintro rfl; exact absurd a3 (Nat.not_lt.2 h1)⟩
                  clear hq2 hb2 hg2 nX v0 vn v5 v6
                  gi_wp2_with fail
                  exact ⟨kk8.out.from _, kk8.out.walks, _, go2, hrx.out, hwf.out, H2.out, un, u5, u6, g72, fun r hr => by have := g8 r hr; simpa using this, by simpa using g9⟩
          case done =>
            rintro E W hE ⟨y, go', g1, g2, g3, _, _, _, _, g8, g9⟩ hD
            have hne : E ∉ rs := fun hm => by have := g8 E hm; omega
            have HR' : Ch.settleGo n L drop (gk - 1) y = some R ∧ gk - 1 < gk := by
              have h := HR.out
              cases gk with
              | zero => simp [Ch.settleGo] at h
              | succ gk =>
                rw [Ch.settleGo, hq] at h
                simp only at h
                rw [← outs_into, g1] at h
                exact ⟨h, by omega⟩
            have HE := Lib.hid (g3.mark (E := E) (by omega) hD)
            refine hK.out _ _ (Handed.intro (gk - 1) HR'.2 (hJ.out _ _ _ ?_))
            exact ⟨_, _, _, _, _, _, _, _, _, _, _, _, _, _, _, _, _, _, _, _, _, _, _, _, _, _, _, _, _, _, _, _, _, _, _, _, _, _, _, _, _, _, _, _, _, _, _, _, _, _, _, _, _, _, _, _, _, _, _, _, _, _, _, _, _, _, y, go', E :: rs, ⟨Lib.hid g2, Lib.hid HR'.1, Lib.hid (List.nodup_cons.2 ⟨hne, HN.out⟩), HE⟩, rfl⟩
          case stop =>
            rintro E pre W hE ⟨post, hpost⟩ ⟨hn1, ⟨s', hf'⟩, g8, g9⟩ hD
            have hne : E ∉ rs := fun hm => by have := g8 E hm; omega
            have E0 : R = none := by
              have h := HR.out
              cases gk with
              | zero => simp [Ch.settleGo] at h
              | succ gk =>
                rw [Ch.settleGo, hq] at h
                simp only at h
                rw [← outs_into, ← hpost, Ch.relaxAll_none hn1] at h
                exact (Option.some.inj h).symm
            subst E0
            gi_wp2
            rw [← hQ0.out]
            exact settle_end_no (rs := E :: rs) (hf'.mark (by omega) hD) (List.nodup_cons.2 ⟨hne, HN.out⟩) rfl
end Go.Proofs.YtemacokojdeimaaGreatDoor

/- Contracts of package chain: levels, consistent. -/
namespace Go.Proofs.YtemacokojdeimaaGreatDoor
open Go.RowKit

/-- what levels leaves -/
def LvPost (w : World) (n : Nat) (R : Option (List Int)) (e : Ending) (w' : World) : Prop :=
  ∃ sb, w.heap.size ≤ sb ∧ Below w.heap.size w w' ∧ e = .returned (.tuple #[.slice (some ⟨sb, 0, none⟩) n n, .bool R.isSome]) ∧ ∀ s, R = some s → ∃ f, w'.rowIs sb 3 n f ∧ ∀ i, i < n → f i = .int .i64 (s.getD i 0)

theorem set_none {w w' : World} {sb N n : Nat} {R : Option (List Int)} {e : Ending} (h : SetPost w sb N n R e w') : But (fun k => k = sb) w w' ∧ e = .returned (.bool R.isSome) ∧ ∀ s, R = some s → ∃ f, w'.rowIs sb 3 N f ∧ ∀ i, i < n → f i = .int .i64 (s.getD i 0) := by
  obtain ⟨h1, h2⟩ := h
  refine ⟨h1, ?_⟩
  cases R with
  | none => exact ⟨h2, fun s hs => by cases hs⟩
  | some s => exact ⟨h2.1, fun s' hs => by cases hs; exact h2.2⟩

set_option maxRecDepth 100000 in
set_option maxHeartbeats 1000000 in
theorem levels_any (n gb : Nat) (n1 : 1 ≤ n) (n2 : n ≤ 60) (L : List Ch.Lk) (drop : List Bool) (fuel : Nat) (R : Option (List Int)) (hR : Hid (Ch.levels n L drop fuel = some R)) (H ib db m : Nat) (a : Option Addr) (cap0 : Nat) (V : Nat → Value) (w : World) (G : Hid (Gr w H gb ib db n m a cap0 V L (fun i => drop.getD i false))) :
    Calls Tryz.prog 67 #[.pointer (some ⟨gb, 0, none⟩)] w (LvPost w n R) := by
  obtain ⟨i0, hi, hz0, hz1, hz2⟩ := info_parts infoInt
  have hmk := run_make_row' (P := Tryz.prog) 41 3 (.int .i64 0) 8 Tryz.underlying41 infoInt rfl .i64 .i64 n (by omega) (by omega)
  have g0 : w.cell? ⟨gb, 0, none⟩ = some (.int .i64 n) := G.out.g.cell (i := 0) (by omega)
  go_enter Tryz.func67, Tryz.ntmps67
  go_wp2_with fail
  refine (settle_any n gb w.heap.size n n n1 n2 (Nat.le_refl _) (List.replicate n 0) (Lib.hid (by simp)) L drop fuel R hR H ib db m a cap0 V G.out.hH _ (Lib.hid (G.out.below ((Below.refl H w).alloc G.out.hH _))) (fun _ => .int .i64 0) (Lib.hid (World.rowIs_made w _ n _)) (Lib.hid fun i hi => by simp [List.getD, hi]) (Lib.hid fun i hi => by simp [List.getD, hi])).mono ?_
  rintro e w1 h
  obtain ⟨hb, rfl, hr⟩ := set_none h
  have hB : Below w.heap.size w w1 := (below_alloc (Below.refl _ _) _).trans (hb.below (B := w.heap.size) (by simp) (fun k hk => by omega))
  clear hb h hmk
  replace hr := Lib.hid hr
  go_wp2
  go_ret2
  exact ⟨w.heap.size, Nat.le_refl _, hB, rfl, hr.out⟩

set_option maxHeartbeats 1000000 in
theorem consistent_any (n gb : Nat) (n1 : 1 ≤ n) (n2 : n ≤ 60) (L : List Ch.Lk) (drop : List Bool) (fuel : Nat) (R : Option (List Int)) (hR : Hid (Ch.levels n L drop fuel = some R)) (H ib db m : Nat) (a : Option Addr) (cap0 : Nat) (V : Nat → Value) (w : World) (G : Hid (Gr w H gb ib db n m a cap0 V L (fun i => drop.getD i false))) :
    Calls Tryz.prog 43 #[.pointer (some ⟨gb, 0, none⟩)] w fun e w' => e = .returned (.bool R.isSome) ∧ Below w.heap.size w w' := by
  have HL := levels_any n gb n1 n2 L drop fuel R hR H ib db m a cap0 V w G
  clear G
  go_enter Tryz.func43, Tryz.ntmps43
  go_wp2_with fail
  refine HL.mono ?_
  rintro e w1 ⟨sb, h1, hB, rfl, _⟩
  go_wp2
  go_ret
  exact ⟨rfl, hB⟩
end Go.Proofs.YtemacokojdeimaaGreatDoor
