/- What the claims of layer 3 share, part 2: several texts one behind the other. -/
import Derived.Test.YtidcedilfhmllaaDoorZ01
import Derived.RangeFuncWrites
import Derived.RangeFuncStops
import Derived.RangeFuncNested
set_option linter.unusedSimpArgs false
set_option linter.unusedVariables false
/- A loop over an iterator that hands out a known list of values: the body is asked only at the value that comes next. -/
namespace Go.Proofs.YtidcedilfhmllaaDoor
open Go.RowKit
attribute [local go_sem] Oper.semAt_some

/-- the loop's own two blocks, and what the caller keeps -/
structure Held (rec : LoopState → Option Code → Loop) (b : Nat) (st : LoopState) (pe : Option Code) (X : Prop) (W : World) : Prop where
  own : X
  loop : W.heap[b + 1]? = some (.loop (rec st pe))
  defs : W.heap[b]? = some (.deferred (some []))

/-- what an iterator does that hands out the values L, one behind the other, in worlds that keep what it reads -/
def HandsG {α : Type} (enc : α → Value) (n : Nat) (P : Program) (gf : Nat) (lb : Array Value) (L : List α) (Keep : World → Prop) (w0 : World) : Prop :=
  ∀ (l : Nat) (J Jx : List α → World → Prop) (W : World), Below w0.heap.size w0 W → AbidesFrom W.heap.size J → (∀ pre W1, J pre W1 → Keep W1) →
    (∀ pre x W1, J pre W1 → pre ++ [x] <+: L → YieldAt Fence.wide (n - 1) P l #[enc x] W1 fun e W' =>
      (e = .returned (.bool true) ∧ J (pre ++ [x]) W' ∧ KeepsWalks W1 W') ∨ (e = .returned (.bool false) ∧ Jx (pre ++ [x]) W')) →
    J [] W →
    CallsIn Fence.wide n P gf (#[.func (.yield l) #[] #[]] ++ lb) W fun e W' => (∃ v, e = .returned v) ∧ (J L W' ∨ ∃ pre, pre <+: L ∧ Jx pre W')

variable {P : Program} {n : Nat}

theorem range_nextG {α : Type} {enc : α → Value} {g : Operand} {t1 : Tmp} {assign body : Code} {Q : Exit → Act → World → Prop} {a : Act} {w : World} (h1 : 1 ≤ n) {gf : Nat} {lb : Array Value}
    (hg : a.eval g = .func (.func gf) #[] lb) (eg : ∀ args w, (callFunc gf args).run P w = .ok (.enter gf args) w) {L : List α} {w0 : World} {Keep : World → Prop} (hseq : HandsG enc (n - 1) P gf lb L Keep w0) (hb0 : Below w0.heap.size w0 w)
    (I : List α → World → Prop) (Ix : List α → World → Prop) (hI : OwnFrom w.heap.size I) (hIx : OwnFrom w.heap.size Ix) (hKeep : ∀ pre W, I pre W → Keep W) (h0 : I [] w) (a₁ : α → Act)
    (hassign : ∀ (l : Nat) (x : α) (W : World) (K : Act → World → Prop), K (a₁ x) W →
      assign.wpIn (Fence.wide.inRound l) (n - 1 - 1) P (Exit.then K (fun _ _ _ => False)) { tmps := (#[t1].zip #[enc x]).foldl (fun t (p, v) => t.setIfInBounds p v) a.tmps, defers := [] } W)
    (hbody : ∀ (l : Nat) (pre : List α) (x : α) (W : World), I pre W → pre ++ [x] <+: L → body.wpIn (Fence.wide.inRound l) (n - 1 - 1) P (fun e _ W' => match e with
      | .normal => KeepsFrom w.heap.size W W' ∧ KeepsWalks W W' ∧ I (pre ++ [x]) W'
      | .ret => KeepsFrom w.heap.size W W' ∧ Ix (pre ++ [x]) W'
      | _ => False) (a₁ x) W)
    (hdone : ∀ (D : Nat) (W : World), w.heap.size ≤ D → I L W → W.heap[D]? = some (.deferred (some [])) → Q .normal { a with defers := { target := .collected D, args := #[] } :: a.defers } W)
    (hstop : ∀ (D : Nat) (pre : List α) (W : World), w.heap.size ≤ D → pre <+: L → Ix pre W → W.heap[D]? = some (.deferred (some [])) → Code.ret.wpIn Fence.wide n P Q { a with defers := { target := .collected D, args := #[] } :: a.defers } W) :
    (Code.rangeFunc g #[t1] assign body).wpIn Fence.wide n P Q a w := by
  refine wpIn_rangeFunc ?_
  intro fn hfn
  obtain ⟨rec, hrec⟩ : ∃ rec : LoopState → Option Code → Loop, rec = fun st pe => { state := st, pending := pe, fn, tmps := a.tmps, params := #[t1], assign, body, defers := w.heap.size } := ⟨_, rfl⟩
  have hq : ∀ st pe, rec st pe = { state := st, pending := pe, fn, tmps := a.tmps, params := #[t1], assign, body, defers := w.heap.size } := fun st pe => by rw [hrec]
  clear hrec
  -- the world in which the iterator begins: two new blocks
  obtain ⟨W1, hW1⟩ : ∃ W1, (w.alloc (.deferred (some []))).alloc (.loop (rec .ready none)) = W1 := ⟨_, rfl⟩
  have hz : w.heap.size + 1 + 1 ≤ W1.heap.size := by rw [← hW1]; simp
  have start : Held rec w.heap.size .ready none (I [] W1) W1 := by
    refine ⟨?_, ?_, ?_⟩
    · rw [← hW1]; exact hI.alloc _ (hI.alloc _ h0)
    · have := World.alloc_heap_new (w.alloc (.deferred (some []))) (.loop (rec .ready none))
      rw [World.size_alloc] at this
      rw [← hW1]; exact this
    · rw [← hW1]; exact (Below.heap_alloc _ _ _ (by simp)).trans (World.alloc_heap_new w _)
  have hb1 : Below w0.heap.size w0 W1 := by
    rw [← hW1]; exact hb0.trans ((((Below.refl _ w).alloc (Nat.le_refl _) _).alloc (by simp) _).mono hb0.size)
  refine ⟨w.heap.size + 1, [{ target := .collected w.heap.size, args := #[] }], W1, { target := .fn (.func gf) lb, args := #[.func (.yield (w.heap.size + 1)) #[] #[]] }, W1, gf, #[.func (.yield (w.heap.size + 1)) #[] #[]] ++ lb, W1,
    by rw [← hW1, hq]; exact run_enterLoop_outer _ _ _ _ _, by simp only [resolve, hg]; simp [go_sem], fun _ _ => trivial, by simp [invoke, go_sem, eg], fun _ => h1, ?_⟩
  clear hW1 h0 hb0
  -- what the caller keeps abides the iterator's own steps
  have far : ∀ {A : World} {row : Option Nat}, (∀ r, row = some r → W1.heap.size ≤ r ∧ ∃ o : Obj, A.heap[r]? = some o ∧ o.isWalk = true) → ∀ r, row = some r → w.heap.size ≤ r ∧ ∃ o : Obj, A.heap[r]? = some o ∧ o.isCells = false := by
    intro A row hr r e
    obtain ⟨h2, o, h3, h4⟩ := hr r e
    exact ⟨by omega, o, h3, Obj.not_cells_of_walk h4⟩
  have abide : ∀ (K : List α → World → Prop), OwnFrom w.heap.size K → ∀ st pe, AbidesFrom W1.heap.size fun pre W => Held rec w.heap.size st pe (K pre W) W := by
    intro K hK st pe p A B row hs hgr hr
    have keep := fun {k : Nat} {o : Obj} (h : A.heap[k]? = some o) (ho : o.isWalk = false) => (grownBy_keeps hgr (fun r e => (hr r e).2) h ho).trans h
    exact ⟨hK p A B row hs.own hgr (far hr), keep hs.loop rfl, keep hs.defs rfl⟩
  -- a turn of the loop's own record
  have turn : ∀ (K : List α → World → Prop), OwnFrom w.heap.size K → ∀ pre W st pe st' pe', Held rec w.heap.size st pe (K pre W) W → Held rec w.heap.size st' pe' (K pre (W.putObj (w.heap.size + 1) (.loop (rec st' pe')))) (W.putObj (w.heap.size + 1) (.loop (rec st' pe'))) := by
    intro K hK pre W st pe st' pe' h
    exact ⟨hK.putObj _ h.own (by omega) h.loop rfl, World.putObj_heap_same (Array.getElem?_eq_some_iff.1 h.loop).1, (World.putObj_heap_other (by omega)).trans h.defs⟩
  refine (hseq (w.heap.size + 1) (fun pre W => Held rec w.heap.size .ready none (I pre W) W) (fun pre W => Held rec w.heap.size .done (some .ret) (Ix pre W) W) W1 hb1 (abide I hI _ _) (fun pre W1 h => hKeep pre W1 h.own) ?_ start).mono ?_
  · intro pre x W h hpre
    have hy := run_yield (P := P) (args := #[enc x]) h.loop (by rw [hq]; rfl)
    rw [hq] at hy
    have h2 := turn I hI pre W .ready none .busy none h
    have hbr := run_beginRound (P := P) h.loop (by rw [hq])
    refine ⟨fn, _, assign, body, hy, roundIn_of_wpIn hfn (hassign _ x W _ ⟨_, hbr, ?_⟩)⟩
    have e2 : ({ rec .ready none with state := .busy } : Loop) = rec .busy none := by rw [hq, hq]
    rw [e2]
    have k2 : KeepsWalks W (W.putObj (w.heap.size + 1) (.loop (rec .busy none))) := KeepsWalks.putObj _ h.loop rfl
    refine wpIn_mono (hbody _ pre x _ h2.own hpre) ?_
    intro e a3 W3 hp
    cases e with
    | normal =>
      obtain ⟨hk3, hw3, hi3⟩ := hp
      have h3 : Held rec w.heap.size .busy none (I (pre ++ [x]) W3) W3 := ⟨hi3, hk3.same _ _ (by omega) h2.loop rfl, hk3.same _ _ (Nat.le_refl _) h2.defs rfl⟩
      have hr := run_endRound (P := P) none h3.loop
      have e3 : ({ rec .busy none with state := if (none : Option Code).isNone then .ready else .done, pending := none } : Loop) = rec .ready none := by rw [hq, hq]; rfl
      rw [e3] at hr
      exact ⟨_, _, hr, .inl ⟨rfl, turn I hI _ _ _ _ _ _ h3, (k2.trans hw3).trans (KeepsWalks.putObj _ h3.loop rfl)⟩⟩
    | ret =>
      obtain ⟨hk3, hi3⟩ := hp
      have h3 : Held rec w.heap.size .busy none (Ix (pre ++ [x]) W3) W3 := ⟨hi3, hk3.same _ _ (by omega) h2.loop rfl, hk3.same _ _ (Nat.le_refl _) h2.defs rfl⟩
      have hr := run_endRound (P := P) (some .ret) h3.loop
      have e3 : ({ rec .busy none with state := if (some Code.ret : Option Code).isNone then .ready else .done, pending := some .ret } : Loop) = rec .done (some .ret) := by rw [hq, hq]; rfl
      rw [e3] at hr
      exact ⟨_, _, hr, .inr ⟨rfl, turn Ix hIx _ _ _ _ _ _ h3⟩⟩
    | exit id => exact hp.elim
    | goto t => exact hp.elim
    | panic ch => exact hp.elim
    | outgrown => exact hp.elim
  · rintro e W2 ⟨⟨v, rfl⟩, h | ⟨pre, hpre, h⟩⟩
    · have hr := run_endLoop (P := P) h.loop (by rw [hq]; simp)
      have e3 : ({ rec .ready none with state := .exhausted } : Loop) = rec .exhausted none := by rw [hq, hq]
      rw [e3] at hr
      have h3 := turn I hI _ _ _ _ .exhausted none h
      exact ⟨none, _, by rw [hr, hq], hdone _ _ (Nat.le_refl _) h3.own h3.defs⟩
    · have hr := run_endLoop (P := P) h.loop (by rw [hq]; simp)
      have h3 := turn Ix hIx _ _ _ _ .exhausted (some .ret) h
      have e3 : ({ rec .done (some .ret) with state := .exhausted } : Loop) = rec .exhausted (some .ret) := by rw [hq, hq]
      rw [e3] at hr
      exact ⟨some .ret, _, by rw [hr, hq], hstop _ pre _ (Nat.le_refl _) hpre h3.own h3.defs⟩

theorem pre_next {α : Type} {L pre : List α} {x : α} (h : pre <+: L) (hx : L[pre.length]? = some x) : pre ++ [x] <+: L := by
  obtain ⟨t, rfl⟩ := h
  cases t with
  | nil => simp at hx
  | cons y t => simp at hx; subst hx; exact ⟨t, by simp⟩
theorem pre_last {α : Type} {L pre : List α} {x : α} (h : pre ++ [x] <+: L) : L[pre.length]? = some x := by obtain ⟨t, rfl⟩ := h; simp
end Go.Proofs.YtidcedilfhmllaaDoor

/- A loop over an iterator that hands out a known list of rows of values (XIt has one value a round). -/
namespace Go.Proofs.YtidcedilfhmllaaDoor
open Go.RowKit
attribute [local go_sem] Oper.semAt_some

/-- what an iterator does that hands out the values L, one behind the other, in worlds that keep what it reads -/
def HandsV {α : Type} (enc : α → Array Value) (n : Nat) (P : Program) (gf : Nat) (lb : Array Value) (L : List α) (Keep : World → Prop) (w0 : World) : Prop :=
  ∀ (l : Nat) (J Jx : List α → World → Prop) (W : World), Below w0.heap.size w0 W → AbidesFrom W.heap.size J → (∀ pre W1, J pre W1 → Keep W1) →
    (∀ pre x W1, J pre W1 → pre ++ [x] <+: L → YieldAt Fence.wide (n - 1) P l (enc x) W1 fun e W' =>
      (e = .returned (.bool true) ∧ J (pre ++ [x]) W' ∧ KeepsWalks W1 W') ∨ (e = .returned (.bool false) ∧ Jx (pre ++ [x]) W')) →
    J [] W →
    CallsIn Fence.wide n P gf (#[.func (.yield l) #[] #[]] ++ lb) W fun e W' => (∃ v, e = .returned v) ∧ (J L W' ∨ ∃ pre, pre <+: L ∧ Jx pre W')

variable {P : Program} {n : Nat}

theorem range_nextV {α : Type} {enc : α → Array Value} {g : Operand} {ps : Array Tmp} (hps : ∀ x, (enc x).size = ps.size) {assign body : Code} {Q : Exit → Act → World → Prop} {a : Act} {w : World} (h1 : 1 ≤ n) {gf : Nat} {lb : Array Value}
    (hg : a.eval g = .func (.func gf) #[] lb) (eg : ∀ args w, (callFunc gf args).run P w = .ok (.enter gf args) w) {L : List α} {w0 : World} {Keep : World → Prop} (hseq : HandsV enc (n - 1) P gf lb L Keep w0) (hb0 : Below w0.heap.size w0 w)
    (I : List α → World → Prop) (Ix : List α → World → Prop) (hI : OwnFrom w.heap.size I) (hIx : OwnFrom w.heap.size Ix) (hKeep : ∀ pre W, I pre W → Keep W) (h0 : I [] w) (a₁ : α → Act)
    (hassign : ∀ (l : Nat) (x : α) (W : World) (K : Act → World → Prop), K (a₁ x) W →
      assign.wpIn (Fence.wide.inRound l) (n - 1 - 1) P (Exit.then K (fun _ _ _ => False)) { tmps := (ps.zip (enc x)).foldl (fun t (p, v) => t.setIfInBounds p v) a.tmps, defers := [] } W)
    (hbody : ∀ (l : Nat) (pre : List α) (x : α) (W : World), I pre W → pre ++ [x] <+: L → body.wpIn (Fence.wide.inRound l) (n - 1 - 1) P (fun e _ W' => match e with
      | .normal => KeepsFrom w.heap.size W W' ∧ KeepsWalks W W' ∧ I (pre ++ [x]) W'
      | .ret => KeepsFrom w.heap.size W W' ∧ Ix (pre ++ [x]) W'
      | _ => False) (a₁ x) W)
    (hdone : ∀ (D : Nat) (W : World), w.heap.size ≤ D → I L W → W.heap[D]? = some (.deferred (some [])) → Q .normal { a with defers := { target := .collected D, args := #[] } :: a.defers } W)
    (hstop : ∀ (D : Nat) (pre : List α) (W : World), w.heap.size ≤ D → pre <+: L → Ix pre W → W.heap[D]? = some (.deferred (some [])) → Code.ret.wpIn Fence.wide n P Q { a with defers := { target := .collected D, args := #[] } :: a.defers } W) :
    (Code.rangeFunc g ps assign body).wpIn Fence.wide n P Q a w := by
  refine wpIn_rangeFunc ?_
  intro fn hfn
  obtain ⟨rec, hrec⟩ : ∃ rec : LoopState → Option Code → Loop, rec = fun st pe => { state := st, pending := pe, fn, tmps := a.tmps, params := ps, assign, body, defers := w.heap.size } := ⟨_, rfl⟩
  have hq : ∀ st pe, rec st pe = { state := st, pending := pe, fn, tmps := a.tmps, params := ps, assign, body, defers := w.heap.size } := fun st pe => by rw [hrec]
  clear hrec
  -- the world in which the iterator begins: two new blocks
  obtain ⟨W1, hW1⟩ : ∃ W1, (w.alloc (.deferred (some []))).alloc (.loop (rec .ready none)) = W1 := ⟨_, rfl⟩
  have hz : w.heap.size + 1 + 1 ≤ W1.heap.size := by rw [← hW1]; simp
  have start : Held rec w.heap.size .ready none (I [] W1) W1 := by
    refine ⟨?_, ?_, ?_⟩
    · rw [← hW1]; exact hI.alloc _ (hI.alloc _ h0)
    · have := World.alloc_heap_new (w.alloc (.deferred (some []))) (.loop (rec .ready none))
      rw [World.size_alloc] at this
      rw [← hW1]; exact this
    · rw [← hW1]; exact (Below.heap_alloc _ _ _ (by simp)).trans (World.alloc_heap_new w _)
  have hb1 : Below w0.heap.size w0 W1 := by
    rw [← hW1]; exact hb0.trans ((((Below.refl _ w).alloc (Nat.le_refl _) _).alloc (by simp) _).mono hb0.size)
  refine ⟨w.heap.size + 1, [{ target := .collected w.heap.size, args := #[] }], W1, { target := .fn (.func gf) lb, args := #[.func (.yield (w.heap.size + 1)) #[] #[]] }, W1, gf, #[.func (.yield (w.heap.size + 1)) #[] #[]] ++ lb, W1,
    by rw [← hW1, hq]; exact run_enterLoop_outer _ _ _ _ _, by simp only [resolve, hg]; simp [go_sem], fun _ _ => trivial, by simp [invoke, go_sem, eg], fun _ => h1, ?_⟩
  clear hW1 h0 hb0
  -- what the caller keeps abides the iterator's own steps
  have far : ∀ {A : World} {row : Option Nat}, (∀ r, row = some r → W1.heap.size ≤ r ∧ ∃ o : Obj, A.heap[r]? = some o ∧ o.isWalk = true) → ∀ r, row = some r → w.heap.size ≤ r ∧ ∃ o : Obj, A.heap[r]? = some o ∧ o.isCells = false := by
    intro A row hr r e
    obtain ⟨h2, o, h3, h4⟩ := hr r e
    exact ⟨by omega, o, h3, Obj.not_cells_of_walk h4⟩
  have abide : ∀ (K : List α → World → Prop), OwnFrom w.heap.size K → ∀ st pe, AbidesFrom W1.heap.size fun pre W => Held rec w.heap.size st pe (K pre W) W := by
    intro K hK st pe p A B row hs hgr hr
    have keep := fun {k : Nat} {o : Obj} (h : A.heap[k]? = some o) (ho : o.isWalk = false) => (grownBy_keeps hgr (fun r e => (hr r e).2) h ho).trans h
    exact ⟨hK p A B row hs.own hgr (far hr), keep hs.loop rfl, keep hs.defs rfl⟩
  -- a turn of the loop's own record
  have turn : ∀ (K : List α → World → Prop), OwnFrom w.heap.size K → ∀ pre W st pe st' pe', Held rec w.heap.size st pe (K pre W) W → Held rec w.heap.size st' pe' (K pre (W.putObj (w.heap.size + 1) (.loop (rec st' pe')))) (W.putObj (w.heap.size + 1) (.loop (rec st' pe'))) := by
    intro K hK pre W st pe st' pe' h
    exact ⟨hK.putObj _ h.own (by omega) h.loop rfl, World.putObj_heap_same (Array.getElem?_eq_some_iff.1 h.loop).1, (World.putObj_heap_other (by omega)).trans h.defs⟩
  refine (hseq (w.heap.size + 1) (fun pre W => Held rec w.heap.size .ready none (I pre W) W) (fun pre W => Held rec w.heap.size .done (some .ret) (Ix pre W) W) W1 hb1 (abide I hI _ _) (fun pre W1 h => hKeep pre W1 h.own) ?_ start).mono ?_
  · intro pre x W h hpre
    have hy := run_yield (P := P) (args := (enc x)) h.loop (by rw [hq]; exact hps x)
    rw [hq] at hy
    have h2 := turn I hI pre W .ready none .busy none h
    have hbr := run_beginRound (P := P) h.loop (by rw [hq])
    refine ⟨fn, _, assign, body, hy, roundIn_of_wpIn hfn (hassign _ x W _ ⟨_, hbr, ?_⟩)⟩
    have e2 : ({ rec .ready none with state := .busy } : Loop) = rec .busy none := by rw [hq, hq]
    rw [e2]
    have k2 : KeepsWalks W (W.putObj (w.heap.size + 1) (.loop (rec .busy none))) := KeepsWalks.putObj _ h.loop rfl
    refine wpIn_mono (hbody _ pre x _ h2.own hpre) ?_
    intro e a3 W3 hp
    cases e with
    | normal =>
      obtain ⟨hk3, hw3, hi3⟩ := hp
      have h3 : Held rec w.heap.size .busy none (I (pre ++ [x]) W3) W3 := ⟨hi3, hk3.same _ _ (by omega) h2.loop rfl, hk3.same _ _ (Nat.le_refl _) h2.defs rfl⟩
      have hr := run_endRound (P := P) none h3.loop
      have e3 : ({ rec .busy none with state := if (none : Option Code).isNone then .ready else .done, pending := none } : Loop) = rec .ready none := by rw [hq, hq]; rfl
      rw [e3] at hr
      exact ⟨_, _, hr, .inl ⟨rfl, turn I hI _ _ _ _ _ _ h3, (k2.trans hw3).trans (KeepsWalks.putObj _ h3.loop rfl)⟩⟩
    | ret =>
      obtain ⟨hk3, hi3⟩ := hp
      have h3 : Held rec w.heap.size .busy none (Ix (pre ++ [x]) W3) W3 := ⟨hi3, hk3.same _ _ (by omega) h2.loop rfl, hk3.same _ _ (Nat.le_refl _) h2.defs rfl⟩
      have hr := run_endRound (P := P) (some .ret) h3.loop
      have e3 : ({ rec .busy none with state := if (some Code.ret : Option Code).isNone then .ready else .done, pending := some .ret } : Loop) = rec .done (some .ret) := by rw [hq, hq]; rfl
      rw [e3] at hr
      exact ⟨_, _, hr, .inr ⟨rfl, turn Ix hIx _ _ _ _ _ _ h3⟩⟩
    | exit id => exact hp.elim
    | goto t => exact hp.elim
    | panic ch => exact hp.elim
    | outgrown => exact hp.elim
  · rintro e W2 ⟨⟨v, rfl⟩, h | ⟨pre, hpre, h⟩⟩
    · have hr := run_endLoop (P := P) h.loop (by rw [hq]; simp)
      have e3 : ({ rec .ready none with state := .exhausted } : Loop) = rec .exhausted none := by rw [hq, hq]
      rw [e3] at hr
      have h3 := turn I hI _ _ _ _ .exhausted none h
      exact ⟨none, _, by rw [hr, hq], hdone _ _ (Nat.le_refl _) h3.own h3.defs⟩
    · have hr := run_endLoop (P := P) h.loop (by rw [hq]; simp)
      have h3 := turn Ix hIx _ _ _ _ .exhausted (some .ret) h
      have e3 : ({ rec .done (some .ret) with state := .exhausted } : Loop) = rec .exhausted (some .ret) := by rw [hq, hq]
      rw [e3] at hr
      exact ⟨some .ret, _, by rw [hr, hq], hstop _ pre _ (Nat.le_refl _) hpre h3.own h3.defs⟩

end Go.Proofs.YtidcedilfhmllaaDoor

/- A loop over an iterator that hands out a known list of values, its variable boxed: each round lays a block. And the marks that such loops leave among the deferred calls. -/
namespace Go.Proofs.YtidcedilfhmllaaDoor
open Go.RowKit
attribute [local go_sem] Oper.semAt_some

variable {P : Program} {n : Nat}

theorem range_nextB {α : Type} {enc : α → Value} (box : α → Obj) {g : Operand} {t1 : Tmp} {assign body : Code} {Q : Exit → Act → World → Prop} {a : Act} {w : World} (h1 : 1 ≤ n) {gf : Nat} {lb : Array Value}
    (hg : a.eval g = .func (.func gf) #[] lb) (eg : ∀ args w, (callFunc gf args).run P w = .ok (.enter gf args) w) {L : List α} {w0 : World} {Keep : World → Prop} (hseq : HandsG enc (n - 1) P gf lb L Keep w0) (hb0 : Below w0.heap.size w0 w)
    (I : List α → World → Prop) (Ix : List α → World → Prop) (hI : OwnFrom w.heap.size I) (hIx : OwnFrom w.heap.size Ix) (hKeep : ∀ pre W, I pre W → Keep W) (h0 : I [] w) (a₁ : α → Nat → Act)
    (hassign : ∀ (l : Nat) (x : α) (W : World) (K : Act → World → Prop), K (a₁ x W.heap.size) (W.alloc (box x)) →
      assign.wpIn (Fence.wide.inRound l) (n - 1 - 1) P (Exit.then K (fun _ _ _ => False)) { tmps := (#[t1].zip #[enc x]).foldl (fun t (p, v) => t.setIfInBounds p v) a.tmps, defers := [] } W)
    (hbody : ∀ (l : Nat) (pre : List α) (x : α) (W : World) (r r' : Loop), I pre W → pre ++ [x] <+: L → w.heap.size ≤ l → W.heap[l]? = some (.loop r) → body.wpIn (Fence.wide.inRound l) (n - 1 - 1) P (fun e _ W' => match e with
      | .normal => KeepsFrom w.heap.size ((W.alloc (box x)).putObj l (.loop r')) W' ∧ KeepsWalks ((W.alloc (box x)).putObj l (.loop r')) W' ∧ I (pre ++ [x]) W'
      | .ret => KeepsFrom w.heap.size ((W.alloc (box x)).putObj l (.loop r')) W' ∧ Ix (pre ++ [x]) W'
      | _ => False) (a₁ x W.heap.size) ((W.alloc (box x)).putObj l (.loop r')))
    (hdone : ∀ (D : Nat) (W : World), w.heap.size ≤ D → I L W → W.heap[D]? = some (.deferred (some [])) → Q .normal { a with defers := { target := .collected D, args := #[] } :: a.defers } W)
    (hstop : ∀ (D : Nat) (pre : List α) (W : World), w.heap.size ≤ D → pre <+: L → Ix pre W → W.heap[D]? = some (.deferred (some [])) → Code.ret.wpIn Fence.wide n P Q { a with defers := { target := .collected D, args := #[] } :: a.defers } W) :
    (Code.rangeFunc g #[t1] assign body).wpIn Fence.wide n P Q a w := by
  refine wpIn_rangeFunc ?_
  intro fn hfn
  obtain ⟨rec, hrec⟩ : ∃ rec : LoopState → Option Code → Loop, rec = fun st pe => { state := st, pending := pe, fn, tmps := a.tmps, params := #[t1], assign, body, defers := w.heap.size } := ⟨_, rfl⟩
  have hq : ∀ st pe, rec st pe = { state := st, pending := pe, fn, tmps := a.tmps, params := #[t1], assign, body, defers := w.heap.size } := fun st pe => by rw [hrec]
  clear hrec
  -- the world in which the iterator begins: two new blocks
  obtain ⟨W1, hW1⟩ : ∃ W1, (w.alloc (.deferred (some []))).alloc (.loop (rec .ready none)) = W1 := ⟨_, rfl⟩
  have hz : w.heap.size + 1 + 1 ≤ W1.heap.size := by rw [← hW1]; simp
  have start : Held rec w.heap.size .ready none (I [] W1) W1 := by
    refine ⟨?_, ?_, ?_⟩
    · rw [← hW1]; exact hI.alloc _ (hI.alloc _ h0)
    · have := World.alloc_heap_new (w.alloc (.deferred (some []))) (.loop (rec .ready none))
      rw [World.size_alloc] at this
      rw [← hW1]; exact this
    · rw [← hW1]; exact (Below.heap_alloc _ _ _ (by simp)).trans (World.alloc_heap_new w _)
  have hb1 : Below w0.heap.size w0 W1 := by
    rw [← hW1]; exact hb0.trans ((((Below.refl _ w).alloc (Nat.le_refl _) _).alloc (by simp) _).mono hb0.size)
  refine ⟨w.heap.size + 1, [{ target := .collected w.heap.size, args := #[] }], W1, { target := .fn (.func gf) lb, args := #[.func (.yield (w.heap.size + 1)) #[] #[]] }, W1, gf, #[.func (.yield (w.heap.size + 1)) #[] #[]] ++ lb, W1,
    by rw [← hW1, hq]; exact run_enterLoop_outer _ _ _ _ _, by simp only [resolve, hg]; simp [go_sem], fun _ _ => trivial, by simp [invoke, go_sem, eg], fun _ => h1, ?_⟩
  clear hW1 h0 hb0
  -- what the caller keeps abides the iterator's own steps
  have far : ∀ {A : World} {row : Option Nat}, (∀ r, row = some r → W1.heap.size ≤ r ∧ ∃ o : Obj, A.heap[r]? = some o ∧ o.isWalk = true) → ∀ r, row = some r → w.heap.size ≤ r ∧ ∃ o : Obj, A.heap[r]? = some o ∧ o.isCells = false := by
    intro A row hr r e
    obtain ⟨h2, o, h3, h4⟩ := hr r e
    exact ⟨by omega, o, h3, Obj.not_cells_of_walk h4⟩
  have abide : ∀ (K : List α → World → Prop), OwnFrom w.heap.size K → ∀ st pe, AbidesFrom W1.heap.size fun pre W => Held rec w.heap.size st pe (K pre W) W := by
    intro K hK st pe p A B row hs hgr hr
    have keep := fun {k : Nat} {o : Obj} (h : A.heap[k]? = some o) (ho : o.isWalk = false) => (grownBy_keeps hgr (fun r e => (hr r e).2) h ho).trans h
    exact ⟨hK p A B row hs.own hgr (far hr), keep hs.loop rfl, keep hs.defs rfl⟩
  -- a turn of the loop's own record
  have turn : ∀ (K : List α → World → Prop), OwnFrom w.heap.size K → ∀ pre W st pe st' pe', Held rec w.heap.size st pe (K pre W) W → Held rec w.heap.size st' pe' (K pre (W.putObj (w.heap.size + 1) (.loop (rec st' pe')))) (W.putObj (w.heap.size + 1) (.loop (rec st' pe'))) := by
    intro K hK pre W st pe st' pe' h
    exact ⟨hK.putObj _ h.own (by omega) h.loop rfl, World.putObj_heap_same (Array.getElem?_eq_some_iff.1 h.loop).1, (World.putObj_heap_other (by omega)).trans h.defs⟩
  refine (hseq (w.heap.size + 1) (fun pre W => Held rec w.heap.size .ready none (I pre W) W) (fun pre W => Held rec w.heap.size .done (some .ret) (Ix pre W) W) W1 hb1 (abide I hI _ _) (fun pre W1 h => hKeep pre W1 h.own) ?_ start).mono ?_
  · intro pre x W h hpre
    have hy := run_yield (P := P) (args := #[enc x]) h.loop (by rw [hq]; rfl)
    rw [hq] at hy
    have hlt : w.heap.size + 1 < W.heap.size := (Array.getElem?_eq_some_iff.1 h.loop).1
    have h' : Held rec w.heap.size .ready none (I pre (W.alloc (box x))) (W.alloc (box x)) := ⟨hI.alloc _ h.own, (Below.heap_alloc _ _ _ hlt).trans h.loop, (Below.heap_alloc _ _ _ (by omega)).trans h.defs⟩
    have h2 := turn I hI pre (W.alloc (box x)) .ready none .busy none h'
    have hbr := run_beginRound (P := P) h'.loop (by rw [hq])
    refine ⟨fn, _, assign, body, hy, roundIn_of_wpIn hfn (hassign _ x W _ ⟨_, hbr, ?_⟩)⟩
    have e2 : ({ rec .ready none with state := .busy } : Loop) = rec .busy none := by rw [hq, hq]
    rw [e2]
    have k2 : KeepsWalks W ((W.alloc (box x)).putObj (w.heap.size + 1) (.loop (rec .busy none))) := ((KeepsOthers.alloc W (box x)).walks).trans (KeepsWalks.putObj _ h'.loop rfl)
    refine wpIn_mono (hbody _ pre x W _ _ h.own hpre (by omega) h.loop) ?_
    intro e a3 W3 hp
    cases e with
    | normal =>
      obtain ⟨hk3, hw3, hi3⟩ := hp
      have h3 : Held rec w.heap.size .busy none (I (pre ++ [x]) W3) W3 := ⟨hi3, hk3.same _ _ (by omega) h2.loop rfl, hk3.same _ _ (Nat.le_refl _) h2.defs rfl⟩
      have hr := run_endRound (P := P) none h3.loop
      have e3 : ({ rec .busy none with state := if (none : Option Code).isNone then .ready else .done, pending := none } : Loop) = rec .ready none := by rw [hq, hq]; rfl
      rw [e3] at hr
      exact ⟨_, _, hr, .inl ⟨rfl, turn I hI _ _ _ _ _ _ h3, (k2.trans hw3).trans (KeepsWalks.putObj _ h3.loop rfl)⟩⟩
    | ret =>
      obtain ⟨hk3, hi3⟩ := hp
      have h3 : Held rec w.heap.size .busy none (Ix (pre ++ [x]) W3) W3 := ⟨hi3, hk3.same _ _ (by omega) h2.loop rfl, hk3.same _ _ (Nat.le_refl _) h2.defs rfl⟩
      have hr := run_endRound (P := P) (some .ret) h3.loop
      have e3 : ({ rec .busy none with state := if (some Code.ret : Option Code).isNone then .ready else .done, pending := some .ret } : Loop) = rec .done (some .ret) := by rw [hq, hq]; rfl
      rw [e3] at hr
      exact ⟨_, _, hr, .inr ⟨rfl, turn Ix hIx _ _ _ _ _ _ h3⟩⟩
    | exit id => exact hp.elim
    | goto t => exact hp.elim
    | panic ch => exact hp.elim
    | outgrown => exact hp.elim
  · rintro e W2 ⟨⟨v, rfl⟩, h | ⟨pre, hpre, h⟩⟩
    · have hr := run_endLoop (P := P) h.loop (by rw [hq]; simp)
      have e3 : ({ rec .ready none with state := .exhausted } : Loop) = rec .exhausted none := by rw [hq, hq]
      rw [e3] at hr
      have h3 := turn I hI _ _ _ _ .exhausted none h
      exact ⟨none, _, by rw [hr, hq], hdone _ _ (Nat.le_refl _) h3.own h3.defs⟩
    · have hr := run_endLoop (P := P) h.loop (by rw [hq]; simp)
      have h3 := turn Ix hIx _ _ _ _ .exhausted (some .ret) h
      have e3 : ({ rec .done (some .ret) with state := .exhausted } : Loop) = rec .exhausted (some .ret) := by rw [hq, hq]
      rw [e3] at hr
      exact ⟨some .ret, _, by rw [hr, hq], hstop _ pre _ (Nat.le_refl _) hpre h3.own h3.defs⟩

/-- the marks among the deferred calls that loops over iterators have left -/
def marks (rs : List Nat) : List Deferred := rs.map fun r => { target := .collected r, args := #[] }
/-- their blocks, taken -/
def freed : List Nat → World → World
  | [], w => w
  | r :: rs, w => freed rs (w.putObj r (.deferred none))
theorem freed_heap : ∀ (rs : List Nat) (w : World) (k : Nat), k ∉ rs → (freed rs w).heap[k]? = w.heap[k]?
  | [], _, _, _ => rfl
  | r :: rs, w, k, h => by
    rw [freed, freed_heap rs _ k (fun hm => h (List.mem_cons_of_mem _ hm))]
    exact World.putObj_heap_other (fun e => h (by rw [e]; exact List.mem_cons_self))
theorem freed_but (rs : List Nat) : ∀ (w : World), But (fun k => k ∈ rs) w (freed rs w) := by
  induction rs with
  | nil => exact fun w => But.refl _ _
  | cons r rs ih =>
    intro w
    have h := ih (w.putObj r (.deferred none))
    have hz : (w.putObj r (.deferred none)).heap.size = w.heap.size := by simp [World.putObj]
    refine ⟨h.os, h.tape, h.output, by rw [← hz]; exact h.size, fun k hk ht => ?_⟩
    exact freed_heap (r :: rs) w k ht

theorem leaves_marks {F : Fence} {fn : Func} {tmps : Array Value} {R : Ending → World → Prop} : ∀ (rs : List Nat) (w : World), rs.Nodup → (∀ r ∈ rs, w.heap[r]? = some (.deferred (some []))) →
    LeavesIn F n P fn tmps R [] .returning (freed rs w) → LeavesInM F n P fn tmps R (marks rs) .returning w
  | [], _, _, _, h => h
  | r :: rs, w, hn, hw, h => by
    refine ⟨by simp, .inl ⟨r, _, rfl, run_takeDeferred (hw r List.mem_cons_self), ?_⟩⟩
    have hn2 := List.nodup_cons.1 hn
    exact leaves_marks rs _ hn2.2 (fun q hq => (World.putObj_heap_other (fun e => hn2.1 (by rw [← e]; exact hq))).trans (hw q (List.mem_cons_of_mem _ hq))) h
end Go.Proofs.YtidcedilfhmllaaDoor
