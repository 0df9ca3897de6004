/- A loop over an iterator that hands out pairs: the body is asked only at the pair that comes next; the iterator of slices.Backward. -/
import Derived.Test.YtffabmojbelaaaaDoorV
namespace Go.Proofs.YtffabmojbelaaaaDoor
open Go.RowKit Go.Shelf
attribute [local go_sem] Oper.semAt_some

/-- a pair, as the two values that are handed to the body -/
def pv (x : Int × Int) : Array Value := #[.int .i64 x.1, .int .i64 x.2]

/-- what an iterator does that hands out the pairs L, one behind the other, in worlds that keep what it reads -/
def Hands2 (n : Nat) (P : Program) (gf : Nat) (lb : Array Value) (L : List (Int × Int)) (Keep : World → Prop) (w0 : World) : Prop :=
  ∀ (l : Nat) (J Jx : List (Int × Int) → World → Prop) (W : World), Below w0.heap.size w0 W → AbidesFrom W.heap.size J → (∀ pre W1, J pre W1 → Keep W1) →
    (∀ pre x W1, J pre W1 → pre ++ [x] <+: L → YieldAt Fence.wide (n - 1) P l (pv x) W1 fun e W' =>
      (e = .returned (.bool true) ∧ J (pre ++ [x]) W' ∧ KeepsWalks W1 W') ∨ (e = .returned (.bool false) ∧ Jx (pre ++ [x]) W')) →
    J [] W →
    CallsIn Fence.wide n P gf (#[.func (.yield l) #[] #[]] ++ lb) W fun e W' => (∃ v, e = .returned v) ∧ (J L W' ∨ ∃ pre, pre <+: L ∧ Jx pre W')

variable {P : Program} {n : Nat}

theorem range_next2 {g : Operand} {t1 t2 : Tmp} {assign body : Code} {Q : Exit → Act → World → Prop} {a : Act} {w : World} (h1 : 1 ≤ n) {gf : Nat} {lb : Array Value}
    (hg : a.eval g = .func (.func gf) #[] lb) (eg : ∀ args w, (callFunc gf args).run P w = .ok (.enter gf args) w) {L : List (Int × Int)} {w0 : World} {Keep : World → Prop} (hseq : Hands2 (n - 1) P gf lb L Keep w0) (hb0 : Below w0.heap.size w0 w)
    (I : List (Int × Int) → World → Prop) (Ix : List (Int × Int) → World → Prop) (hI : OwnFrom w.heap.size I) (hIx : OwnFrom w.heap.size Ix) (hKeep : ∀ pre W, I pre W → Keep W) (h0 : I [] w) (a₁ : Int × Int → Act)
    (hassign : ∀ (l : Nat) (x : Int × Int) (W : World) (K : Act → World → Prop), K (a₁ x) W →
      assign.wpIn (Fence.wide.inRound l) (n - 1 - 1) P (Exit.then K (fun _ _ _ => False)) { tmps := (#[t1, t2].zip (pv x)).foldl (fun t (p, v) => t.setIfInBounds p v) a.tmps, defers := [] } W)
    (hbody : ∀ (l : Nat) (pre : List (Int × Int)) (x : Int × Int) (W : World), I pre W → pre ++ [x] <+: L → body.wpIn (Fence.wide.inRound l) (n - 1 - 1) P (fun e _ W' => match e with
      | .normal => KeepsFrom w.heap.size W W' ∧ KeepsWalks W W' ∧ I (pre ++ [x]) W'
      | .ret => KeepsFrom w.heap.size W W' ∧ Ix (pre ++ [x]) W'
      | _ => False) (a₁ x) W)
    (hdone : ∀ (D : Nat) (W : World), w.heap.size ≤ D → I L W → W.heap[D]? = some (.deferred (some [])) → Q .normal { a with defers := { target := .collected D, args := #[] } :: a.defers } W)
    (hstop : ∀ (D : Nat) (pre : List (Int × Int)) (W : World), w.heap.size ≤ D → pre <+: L → Ix pre W → W.heap[D]? = some (.deferred (some [])) → Code.ret.wpIn Fence.wide n P Q { a with defers := { target := .collected D, args := #[] } :: a.defers } W) :
    (Code.rangeFunc g #[t1, t2] assign body).wpIn Fence.wide n P Q a w := by
  refine wpIn_rangeFunc ?_
  intro fn hfn
  obtain ⟨rec, hrec⟩ : ∃ rec : LoopState → Option Code → Loop, rec = fun st pe => { state := st, pending := pe, fn, tmps := a.tmps, params := #[t1, t2], assign, body, defers := w.heap.size } := ⟨_, rfl⟩
  have hq : ∀ st pe, rec st pe = { state := st, pending := pe, fn, tmps := a.tmps, params := #[t1, t2], assign, body, defers := w.heap.size } := fun st pe => by rw [hrec]
  clear hrec
  -- the world in which the iterator begins: two new blocks
  obtain ⟨W1, hW1⟩ : ∃ W1, (w.alloc (.deferred (some []))).alloc (.loop (rec .ready none)) = W1 := ⟨_, rfl⟩
  have hz : w.heap.size + 1 + 1 ≤ W1.heap.size := by rw [← hW1]; simp
  have start : Held rec w.heap.size .ready none (I [] W1) W1 := by
    refine ⟨?_, ?_, ?_⟩
    · rw [← hW1]; exact hI.alloc _ (hI.alloc _ h0)
    · have := World.alloc_heap_new (w.alloc (.deferred (some []))) (.loop (rec .ready none))
      rw [World.size_alloc] at this
      rw [← hW1]; exact this
    · rw [← hW1]; exact (Below.heap_alloc _ _ _ (by simp)).trans (World.alloc_heap_new w _)
  have hb1 : Below w0.heap.size w0 W1 := by
    rw [← hW1]; exact hb0.trans ((((Below.refl _ w).alloc (Nat.le_refl _) _).alloc (by simp) _).mono hb0.size)
  refine ⟨w.heap.size + 1, [{ target := .collected w.heap.size, args := #[] }], W1, { target := .fn (.func gf) lb, args := #[.func (.yield (w.heap.size + 1)) #[] #[]] }, W1, gf, #[.func (.yield (w.heap.size + 1)) #[] #[]] ++ lb, W1,
    by rw [← hW1, hq]; exact run_enterLoop_outer _ _ _ _ _, by simp only [resolve, hg]; simp [go_sem], fun _ _ => trivial, by simp [invoke, go_sem, eg], fun _ => h1, ?_⟩
  clear hW1 h0 hb0
  -- what the caller keeps abides the iterator's own steps
  have far : ∀ {A : World} {row : Option Nat}, (∀ r, row = some r → W1.heap.size ≤ r ∧ ∃ o : Obj, A.heap[r]? = some o ∧ o.isWalk = true) → ∀ r, row = some r → w.heap.size ≤ r ∧ ∃ o : Obj, A.heap[r]? = some o ∧ o.isCells = false := by
    intro A row hr r e
    obtain ⟨h2, o, h3, h4⟩ := hr r e
    exact ⟨by omega, o, h3, Obj.not_cells_of_walk h4⟩
  have abide : ∀ (K : List (Int × Int) → World → Prop), OwnFrom w.heap.size K → ∀ st pe, AbidesFrom W1.heap.size fun pre W => Held rec w.heap.size st pe (K pre W) W := by
    intro K hK st pe p A B row hs hgr hr
    have keep := fun {k : Nat} {o : Obj} (h : A.heap[k]? = some o) (ho : o.isWalk = false) => (grownBy_keeps hgr (fun r e => (hr r e).2) h ho).trans h
    exact ⟨hK p A B row hs.own hgr (far hr), keep hs.loop rfl, keep hs.defs rfl⟩
  -- a turn of the loop's own record
  have turn : ∀ (K : List (Int × Int) → World → Prop), OwnFrom w.heap.size K → ∀ pre W st pe st' pe', Held rec w.heap.size st pe (K pre W) W → Held rec w.heap.size st' pe' (K pre (W.putObj (w.heap.size + 1) (.loop (rec st' pe')))) (W.putObj (w.heap.size + 1) (.loop (rec st' pe'))) := by
    intro K hK pre W st pe st' pe' h
    exact ⟨hK.putObj _ h.own (by omega) h.loop rfl, World.putObj_heap_same (Array.getElem?_eq_some_iff.1 h.loop).1, (World.putObj_heap_other (by omega)).trans h.defs⟩
  refine (hseq (w.heap.size + 1) (fun pre W => Held rec w.heap.size .ready none (I pre W) W) (fun pre W => Held rec w.heap.size .done (some .ret) (Ix pre W) W) W1 hb1 (abide I hI _ _) (fun pre W1 h => hKeep pre W1 h.own) ?_ start).mono ?_
  · intro pre x W h hpre
    have hy := run_yield (P := P) (args := pv x) h.loop (by rw [hq]; rfl)
    rw [hq] at hy
    have h2 := turn I hI pre W .ready none .busy none h
    have hbr := run_beginRound (P := P) h.loop (by rw [hq])
    refine ⟨fn, _, assign, body, hy, roundIn_of_wpIn hfn (hassign _ x W _ ⟨_, hbr, ?_⟩)⟩
    have e2 : ({ rec .ready none with state := .busy } : Loop) = rec .busy none := by rw [hq, hq]
    rw [e2]
    have k2 : KeepsWalks W (W.putObj (w.heap.size + 1) (.loop (rec .busy none))) := KeepsWalks.putObj _ h.loop rfl
    refine wpIn_mono (hbody _ pre x _ h2.own hpre) ?_
    intro e a3 W3 hp
    cases e with
    | normal =>
      obtain ⟨hk3, hw3, hi3⟩ := hp
      have h3 : Held rec w.heap.size .busy none (I (pre ++ [x]) W3) W3 := ⟨hi3, hk3.same _ _ (by omega) h2.loop rfl, hk3.same _ _ (Nat.le_refl _) h2.defs rfl⟩
      have hr := run_endRound (P := P) none h3.loop
      have e3 : ({ rec .busy none with state := if (none : Option Code).isNone then .ready else .done, pending := none } : Loop) = rec .ready none := by rw [hq, hq]; rfl
      rw [e3] at hr
      exact ⟨_, _, hr, .inl ⟨rfl, turn I hI _ _ _ _ _ _ h3, (k2.trans hw3).trans (KeepsWalks.putObj _ h3.loop rfl)⟩⟩
    | ret =>
      obtain ⟨hk3, hi3⟩ := hp
      have h3 : Held rec w.heap.size .busy none (Ix (pre ++ [x]) W3) W3 := ⟨hi3, hk3.same _ _ (by omega) h2.loop rfl, hk3.same _ _ (Nat.le_refl _) h2.defs rfl⟩
      have hr := run_endRound (P := P) (some .ret) h3.loop
      have e3 : ({ rec .busy none with state := if (some Code.ret : Option Code).isNone then .ready else .done, pending := some .ret } : Loop) = rec .done (some .ret) := by rw [hq, hq]; rfl
      rw [e3] at hr
      exact ⟨_, _, hr, .inr ⟨rfl, turn Ix hIx _ _ _ _ _ _ h3⟩⟩
    | exit id => exact hp.elim
    | goto t => exact hp.elim
    | panic ch => exact hp.elim
    | outgrown => exact hp.elim
  · rintro e W2 ⟨⟨v, rfl⟩, h | ⟨pre, hpre, h⟩⟩
    · have hr := run_endLoop (P := P) h.loop (by rw [hq]; simp)
      have e3 : ({ rec .ready none with state := .exhausted } : Loop) = rec .exhausted none := by rw [hq, hq]
      rw [e3] at hr
      have h3 := turn I hI _ _ _ _ .exhausted none h
      exact ⟨none, _, by rw [hr, hq], hdone _ _ (Nat.le_refl _) h3.own h3.defs⟩
    · have hr := run_endLoop (P := P) h.loop (by rw [hq]; simp)
      have h3 := turn Ix hIx _ _ _ _ .exhausted (some .ret) h
      have e3 : ({ rec .done (some .ret) with state := .exhausted } : Loop) = rec .exhausted (some .ret) := by rw [hq, hq]
      rw [e3] at hr
      exact ⟨some .ret, _, by rw [hr, hq], hstop _ pre _ (Nat.le_refl _) hpre h3.own h3.defs⟩

/-- the pairs that slices.Backward hands out -/
def bkw (l : List Int) : List (Int × Int) := (List.range l.length).map fun j => (((l.length - 1 - j : Nat) : Int), l.getD (l.length - 1 - j) 0)
theorem bkw_len (l : List Int) : (bkw l).length = l.length := by simp [bkw]
theorem bkw_at {l : List Int} {j : Nat} (h : j < l.length) : (bkw l)[j]? = some (((l.length - 1 - j : Nat) : Int), l.getD (l.length - 1 - j) 0) := by simp [bkw, h]
theorem pre_next {α : Type} {L pre : List α} {x : α} (h : pre <+: L) (hx : L[pre.length]? = some x) : pre ++ [x] <+: L := by
  obtain ⟨t, rfl⟩ := h
  cases t with
  | nil => simp at hx
  | cons y t => simp at hx; subst hx; exact ⟨t, by simp⟩
theorem pre_last {α : Type} {L pre : List α} {x : α} (h : pre ++ [x] <+: L) : L[pre.length]? = some x := by obtain ⟨t, rfl⟩ := h; simp
theorem bkw_last {l : List Int} {pre : List (Int × Int)} {x : Int × Int} (h : pre ++ [x] <+: bkw l) : pre.length < l.length ∧ x = (((l.length - 1 - pre.length : Nat) : Int), l.getD (l.length - 1 - pre.length) 0) := by
  have h1 := pre_last h
  have h2 : pre.length < l.length := by
    have := h.length_le
    rw [bkw_len] at this
    simp at this; omega
  rw [bkw_at h2] at h1
  exact ⟨h2, (Option.some.inj h1).symm⟩

/-- what the iterator reads -/
def BK (B : Nat) (ao : Option Addr) (cap : Nat) (l : List Int) (W : World) : Prop :=
  W.cell? ⟨B, 0, none⟩ = some (.slice ao l.length cap) ∧ ∀ k, k < l.length → ∃ x, ao = some x ∧ W.cell? (x.add k) = some (.int .i64 (l.getD k 0))

theorem back_any (ao : Option Addr) (len cap : Nat) (w : World) :
    Calls Tryd.prog 115 #[.slice ao len cap] w fun e w' => e = .returned (.func (.func 122) #[] #[.pointer (some ⟨w.heap.size, 0, none⟩)]) ∧ w' = w.alloc (.cells #[.slice ao len cap] 49) := by
  have hmf : ∀ (fn : Fn) (first cap : Array Value) (w : World), (Instr.makeFunc fn first cap).run Tryd.prog w = .ok (.func fn first cap) w := fun _ _ _ _ => rfl
  go_enter Tryd.func115, Tryd.ntmps115
  go_wp2
  go_ret
  exact ⟨rfl, rfl⟩

set_option maxRecDepth 100000 in
set_option maxHeartbeats 2000000 in
theorem back1_in (n : Nat) (hn : 2 ≤ n) (l B : Nat) (ao : Option Addr) (cap : Nat) (xs : List Int) (hx : xs.length ≤ 60) (J Jx : List (Int × Int) → World → Prop)
    (hK : ∀ pre W, J pre W → BK B ao cap xs W)
    (hY : ∀ pre x W, J pre W → pre ++ [x] <+: bkw xs → YieldAt Fence.wide (n - 1) Tryd.prog l (pv x) W fun e W' =>
      (e = .returned (.bool true) ∧ J (pre ++ [x]) W' ∧ KeepsWalks W W') ∨ (e = .returned (.bool false) ∧ Jx (pre ++ [x]) W'))
    (W : World) (h0 : J [] W) :
    CallsIn Fence.wide n Tryd.prog 122 #[.func (.yield l) #[] #[], .pointer (some ⟨B, 0, none⟩)] W fun e W' => (∃ v, e = .returned v) ∧ (J (bkw xs) W' ∨ ∃ pre, pre <+: bkw xs ∧ Jx pre W') := by
  have hn1 : 1 ≤ n := by omega
  have c0 := (hK _ _ h0).1
  have hx2 : (0 : Int) ≤ (xs.length : Int) ∧ (xs.length : Int) ≤ 60 := by omega
  refine callsIn_of_wp Tryd.func122 rfl trivial ?_ rfl
  simp only [Tryd.ntmps122, List.size_toArray, List.length_cons, List.length_nil, Nat.reduceAdd, Nat.reduceSub, Array.replicate_succ, Array.replicate_zero, List.push_toArray, List.append_toArray, List.nil_append, List.cons_append]
  gi_wp2
  gi_loopw [3] (fun i wr => ∃ pre : List (Int × Int), i = .int .i64 ((xs.length : Int) - 1 - pre.length) ∧ pre.length ≤ xs.length ∧ Hid (pre <+: bkw xs) ∧ J pre wr) (fun i _ => (RowKit.intOf i + 1).toNat)
  case atStart => exact ⟨[], by simp, by simp, Lib.hid (List.nil_prefix), h0⟩
  case round =>
    obtain ⟨pre, rfl, hp1, hp, hJs⟩ := hrel
    by_cases hD : pre.length = xs.length
    · have hneg : ¬ (0 : Int) ≤ (xs.length : Int) - 1 - pre.length := by omega
      gi_wp2
      go_end0
      refine ⟨⟨_, rfl⟩, .inl ?_⟩
      rw [← hp.out.eq_of_length (by rw [bkw_len]; exact hD)]
      exact hJs
    · have hlt : pre.length < xs.length := by omega
      obtain ⟨s0, hel⟩ := hK _ _ hJs
      obtain ⟨x, rfl, hc⟩ := hel (xs.length - 1 - pre.length) (by omega)
      have hnx := pre_next hp.out (bkw_at hlt)
      have hi : ((xs.length - 1 - pre.length : Nat) : Int) = (xs.length : Int) - 1 - pre.length := by omega
      obtain ⟨fn, tmps, assign, body, hy, hR⟩ := hY pre _ wr hJs hnx
      obtain ⟨j, hj⟩ : ∃ j, xs.length - 1 - pre.length = j := ⟨_, rfl⟩
      rw [hj] at hc hnx hi hy hR
      rw [← hi]
      obtain ⟨q, hq⟩ : ∃ q, xs.getD j 0 = q := ⟨_, rfl⟩
      rw [hq] at hc hnx hy hR
      have hb1 : (0 : Int) ≤ (j : Int) := by omega
      have hb2 : (j : Int) < (xs.length : Int) := by omega
      have hb3 : j < xs.length := by omega
      simp only [pv] at hy
      clear hel hq hK c0 hY
      replace hnx := Lib.hid hnx
      replace hi := Lib.hid hi
      replace hj := Lib.hid hj
      gi_wp2
      refine hR.mono ?_
      rintro e W3 (⟨rfl, hJ3, hk3⟩ | ⟨rfl, hJx3⟩)
      · gi_wp2
        go_roundw
        case rel => exact ⟨pre ++ [((j : Int), q)], by have := hi.out; simp; omega, by simp; omega, Lib.hid hnx.out, hJ3⟩
        case measure => have := hi.out; simp only [RowKit.intOf]; omega
      · gi_wp2
        refine bodyPost_ret (results_none rfl _ _ _) rfl ?_
        exact ⟨⟨_, rfl⟩, .inr ⟨_, hnx.out, hJx3⟩⟩

theorem back_hands (n : Nat) (hn : 2 ≤ n) (B : Nat) (ao : Option Addr) (cap : Nat) (xs : List Int) (hx : xs.length ≤ 60) (w : World) :
    Hands2 n Tryd.prog 122 #[.pointer (some ⟨B, 0, none⟩)] (bkw xs) (BK B ao cap xs) w := fun l J Jx W _ _ hK hY h0 =>
  back1_in n hn l B ao cap xs hx J Jx hK hY W h0
end Go.Proofs.YtffabmojbelaaaaDoor
