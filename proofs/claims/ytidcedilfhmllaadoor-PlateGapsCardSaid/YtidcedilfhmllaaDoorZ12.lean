/- What the claims of layer 3 share, part 12: several texts one behind the other. -/
import Derived.Test.YtidcedilfhmllaaDoorZ01
import Derived.StillTail
import Derived.Deep.RegionHeld3
import Derived.Test.YtidcedilfhmllaaDoorZ04
import Derived.Test.YtidcedilfhmllaaDoorZ03
set_option linter.unusedSimpArgs false
set_option linter.unusedVariables false
/- A region that draws its order and whose last operations come in one forced order: its head as a region of its own, and then the tail as a list. (Any step of the head may make or write memory.) -/
namespace Go.Proofs.YtidcedilfhmllaaDoor
open Go.RowKit

section
variable {P : Program} {md : Region.Mode} {Q : Exit → Act → World → Prop}

theorem any_more {ops : Array Oper} : ∀ (f : Nat) (listed : Array Bool) (a : Act) (w : World), wpAny P md ops Q f listed a w → wpAny P md ops Q (f + 1) listed a w
  | 0, listed, a, w, h => ⟨fun _ => h.2, fun i hi => by rw [h.1] at hi; cases hi⟩
  | f + 1, listed, a, w, h => ⟨h.1, fun i hi => wpOp_mono (fun a' w' h' => any_more f _ a' w' h') (h.2 i hi)⟩
theorem any_moreN {ops : Array Oper} (g : Nat) {listed : Array Bool} {a : Act} {w : World} (h : wpAny P md ops Q g listed a w) : ∀ f, wpAny P md ops Q (f + g) listed a w
  | 0 => by rw [Nat.zero_add]; exact h
  | f + 1 => by rw [show f + 1 + g = (f + g) + 1 by omega]; exact any_more _ _ _ _ (any_moreN g h f)

/-- what follows the head -/
def thenTail (P : Program) (ops : Array Oper) (Q : Exit → Act → World → Prop) (l : List Oper) : Exit → Act → World → Prop
  | .normal, a, w => wpList P ops Q l a w
  | e, a, w => Q e a w
theorem lets_tail {ops : Array Oper} {l : List Oper} (h : LetsOut (thenTail P ops Q l)) : LetsOut Q := by
  obtain ⟨a, w, h⟩ := h
  exact ⟨a, w, h⟩
theorem wp_tail {ops : Array Oper} {l : List Oper} {o : Oper} {K K' : Act → World → Prop} {a : Act} {w : World} (hK : ∀ a w, K a w → K' a w) (h : o.wp P a w K (thenTail P ops Q l)) : o.wp P a w K' Q := by
  unfold Oper.wp at *
  generalize (execOp a.eval o).run P w = r at *
  cases r with
  | ok x w' =>
    cases x with
    | value v => exact hK _ _ h
    | skip => exact hK _ _ h
    | defer d => exact hK _ _ h
    | enter f args =>
      refine Calls.mono (h : Calls P f args w' _) ?_
      intro e w'' hh
      cases e with
      | returned v => exact hK _ _ hh
      | panicked c => exact hh
      | outgrown => exact lets_tail hh
    | row r args => exact Rows.mono (h : Rows P r args w' _) fun v w'' hh => hK _ _ hh
    | _ => exact h.elim
  | halt x w' =>
    cases x with
    | panic v => exact h
    | _ => exact h.elim

/-- no operation of the head waits for a later one, none is guarded -/
def headB (md : Region.Mode) (l : List Oper) : Bool := (List.range l.length).all fun i => match l[i]? with
  | some o => o.guard.isNone && o.after.all fun e => !Region.binds md e || decide (e.on < i)
  | none => true
theorem head_spec {l : List Oper} (h : headB md l = true) {i : Nat} {o : Oper} (hi : l[i]? = some o) : o.guard = none ∧ ∀ e ∈ o.after, Region.binds md e = true → e.on < i := by
  have hl : i < l.length := (List.getElem?_eq_some_iff.1 hi).1
  have h1 := List.all_eq_true.1 h i (List.mem_range.2 hl)
  rw [hi] at h1
  simp only [Bool.and_eq_true, Option.isNone_iff_eq_none] at h1
  refine ⟨h1.1, fun e he hb => ?_⟩
  have h2 := Array.all_eq_true'.1 h1.2 e he
  simpa [hb] using h2

/-- the marks of what is done, within the head -/
def doneHead (n : Nat) (l2 : Array Bool) (m : Nat) : Array Bool := (Array.range m).map fun i => decide (i < n) && l2.getD i true

theorem head_all {H : List Oper} {l2 : Array Bool} (hb : headB md H = true) (hsz : l2.size = H.length) (hr : Region.ready md H.toArray l2 = []) : ∀ i, i < H.length → l2.getD i true = true := by
  intro i
  induction i using Nat.strongRecOn with
  | _ i ih =>
    intro hi
    cases e : l2.getD i true with
    | true => rfl
    | false =>
      have ho : H[i]? = some H[i] := List.getElem?_eq_getElem hi
      have hm : i ∈ Region.ready md H.toArray l2 := mem_ready.2 ⟨e, H[i], by rw [List.getElem?_toArray]; exact ho, fun ed hed hbd => by
        have h1 := (head_spec hb ho).2 ed hed hbd
        have h2 := ih ed.on h1 (by omega)
        have h3 : ed.on < l2.size := by omega
        simp [h3] at h2 ⊢; exact h2⟩
      rw [hr] at hm
      cases hm

theorem any_head {ops : List Oper} {n : Nat} (hs : Region.sinkB md ops.toArray n = true) (hc : Region.chainB md ops.toArray n = true) (hn : n < ops.length) (hb : headB md (ops.take n) = true)
    (hseq : ∀ listed : Array Bool, listed.size = ops.length → (∀ i, i < n → listed.getD i true = true) → (∀ t, n ≤ t → t < ops.length → listed.getD t true = false) → Region.seqB md ops.toArray (ops.drop n).length n listed = true) :
    ∀ (f : Nat) (listed l2 : Array Bool) (a : Act) (w : World), HeadInv md ops.toArray n listed → l2.size = n → (∀ i, i < n → l2.getD i true = listed.getD i true) →
      wpAny P md (ops.take n).toArray (thenTail P ops.toArray Q (ops.drop n)) f l2 a w → wpAny P md ops.toArray Q (f + (ops.drop n).length) listed a w := by
  have hlen : (ops.take n).length = n := by rw [List.length_take]; omega
  have fin : ∀ (listed l2 : Array Bool) (a : Act) (w : World), HeadInv md ops.toArray n listed → l2.size = n → (∀ i, i < n → l2.getD i true = listed.getD i true) → Region.ready md (ops.take n).toArray l2 = [] → wpList P ops.toArray Q (ops.drop n) a w → wpAny P md ops.toArray Q (ops.drop n).length listed a w := by
    intro listed l2 a w inv h1 h2 hr h
    have hall := head_all hb (by rw [hlen]; exact h1) hr
    rw [hlen] at hall
    refine wpAny_of_seq (ops.drop n) n listed a w (fun j => by rw [List.getElem?_drop, List.getElem?_toArray]) (hseq listed (by simpa using inv.size) (fun i hi => by rw [← h2 i hi]; exact hall i hi) (fun t ht ht2 => inv.tail t ht (by simpa using ht2))) h
  intro f
  induction f with
  | zero =>
    intro listed l2 a w inv h1 h2 h
    rw [Nat.zero_add]
    exact fin listed l2 a w inv h1 h2 h.1 h.2
  | succ f ih =>
    intro listed l2 a w inv h1 h2 h
    by_cases hr : Region.ready md (ops.take n).toArray l2 = []
    · exact any_moreN _ (fin listed l2 a w inv h1 h2 hr (h.1 hr)) (f + 1)
    · have mem : ∀ i, i < n → (i ∈ Region.ready md ops.toArray listed ↔ i ∈ Region.ready md (ops.take n).toArray l2) := by
        intro i hi
        have e1 : (ops.take n).toArray[i]? = ops.toArray[i]? := by rw [List.getElem?_toArray, List.getElem?_toArray, List.getElem?_take_of_lt hi]
        have key : ∀ o, ops.toArray[i]? = some o → ∀ e ∈ o.after, Region.binds md e = true → (listed.getD e.on false = l2.getD e.on false) := by
          intro o ho e he hbd
          have hlt := (head_spec hb (i := i) (o := o) (by rw [List.getElem?_take_of_lt hi]; simpa using ho)).2 e he hbd
          have h3 := h2 e.on (by omega)
          have s1 : e.on < l2.size := by omega
          have s2 : e.on < listed.size := by have := inv.size; simp at this; omega
          simp [s1, s2] at h3 ⊢
          exact h3.symm
        rw [mem_ready, mem_ready, e1, h2 i hi]
        constructor
        · rintro ⟨g1, o, ho, g2⟩; exact ⟨g1, o, ho, fun e he hbd => by rw [← key o ho e he hbd]; exact g2 e he hbd⟩
        · rintro ⟨g1, o, ho, g2⟩; exact ⟨g1, o, ho, fun e he hbd => by rw [key o ho e he hbd]; exact g2 e he hbd⟩
      obtain ⟨i0, hi0⟩ := List.exists_mem_of_ne_nil _ hr
      have hi0n : i0 < n := by
        obtain ⟨_, o, ho, _⟩ := mem_ready.1 hi0
        have h5 := (Array.getElem?_eq_some_iff.1 ho).1
        rw [List.size_toArray, hlen] at h5
        exact h5
      have hun : listed.getD i0 true = false := by rw [← h2 i0 hi0n]; exact (mem_ready.1 hi0).1
      rw [show f + 1 + (ops.drop n).length = (f + (ops.drop n).length) + 1 by omega]
      refine ⟨fun h0 => absurd ((mem i0 hi0n).2 hi0) (by rw [h0]; simp), fun i hi => ?_⟩
      have hin : i < n := by
        rcases Nat.lt_or_ge i n with h3 | h3
        · exact h3
        · exact absurd hi (tail_waits hs hc (by simpa using hn) inv _ i0 rfl hi0n hun i h3)
      have hi2 := (mem i hin).1 hi
      have hstep := h.2 i hi2
      have e1 : (ops.take n).toArray[i]? = ops.toArray[i]? := by rw [List.getElem?_toArray, List.getElem?_toArray, List.getElem?_take_of_lt hin]
      obtain ⟨_, o, ho, _⟩ := mem_ready.1 hi
      have hg := (head_spec hb (i := i) (o := o) (by rw [List.getElem?_take_of_lt hin]; simpa using ho)).1
      unfold wpOp at hstep ⊢
      rw [e1] at hstep
      rw [ho] at hstep ⊢
      have hw : ∀ y, Region.wanted o y = true := fun y => by unfold Region.wanted; rw [hg]
      simp only [hw, if_true] at hstep ⊢
      have next : ∀ a' w', wpAny P md (ops.take n).toArray (thenTail P ops.toArray Q (ops.drop n)) f (l2.setIfInBounds i true) a' w' → wpAny P md ops.toArray Q (f + (ops.drop n).length) (listed.setIfInBounds i true) a' w' := fun a' w' h' =>
        ih _ _ a' w' (inv.set hi hin) (by simp [h1]) (fun j hj => by
          by_cases e : i = j
          · subst e
            have s1 : i < l2.size := by omega
            have s2 : i < listed.size := by have := inv.size; simp at this; omega
            simp [s1, s2]
          · rw [getD_set_ne true e, getD_set_ne true e]; exact h2 j hj) h'
      rcases hstep with h' | ⟨h', hl⟩
      · exact .inl (wp_tail next h')
      · exact .inr ⟨h', lets_tail hl⟩

/-- the checks on a region whose head is n operations -/
def tailOk (l : List Oper) (n : Nat) : Bool :=
  Region.sinkB .any l.toArray n && Region.chainB .any l.toArray n && decide (n < l.length) && headB .any (l.take n) && Region.seqB .any l.toArray (l.drop n).length n (List.replicate n true ++ List.replicate (l.length - n) false).toArray

theorem listed_eq {listed : Array Bool} {n m : Nat} (hn : n ≤ m) (h1 : listed.size = m) (h2 : ∀ i, i < n → listed.getD i true = true) (h3 : ∀ t, n ≤ t → t < m → listed.getD t true = false) : listed = (List.replicate n true ++ List.replicate (m - n) false).toArray := by
  apply Array.ext_getElem?
  intro i
  have e0 : (List.replicate n true ++ List.replicate (m - n) false).toArray[i]? = (List.replicate n true ++ List.replicate (m - n) false)[i]? := by simp only [List.getElem?_toArray]
  refine Eq.trans ?_ e0.symm
  by_cases e : i < n
  · have g1 : i < listed.size := by omega
    have h4 := h2 i e
    simp [g1] at h4
    rw [Array.getElem?_eq_getElem g1, h4, List.getElem?_append_left (by simpa using e), List.getElem?_replicate, if_pos e]
  · by_cases e2 : i < m
    · have g1 : i < listed.size := by omega
      have h4 := h3 i (by omega) e2
      simp [g1] at h4
      rw [Array.getElem?_eq_getElem g1, h4, List.getElem?_append_right (by simpa using Nat.le_of_not_lt e), List.getElem?_replicate, if_pos (by simp; omega)]
    · rw [Array.getElem?_eq_none (by omega), List.getElem?_eq_none (by simp; omega)]

theorem region_head_held {id : Nat} {l : List Oper} {a : Act} {w : World} (n : Nat) (S : World → Prop) (hm : P.follows .mixedOrders = true) (hB : tailOk l n = true) (hS : S w.drew)
    (h : S w.drew → wpAnyH P .any (l.take n).toArray (thenTail P l.toArray Q (l.drop n)) S n (Array.replicate n false) a w.drew) : (Code.region id l.toArray true).wp P Q a w := by
  simp only [tailOk, Bool.and_eq_true, decide_eq_true_eq] at hB
  obtain ⟨⟨⟨⟨h1, h2⟩, h3⟩, h4⟩, h5⟩ := hB
  refine wp_region_any hm ?_
  have h6 := any_head (Q := Q) h1 h2 h3 h4 (fun listed g1 g2 g3 => by rw [listed_eq (Nat.le_of_lt h3) g1 g2 g3]; exact h5) n (Array.replicate l.length false) (Array.replicate n false) a w.drew
    ⟨by simp, (fun j oj hj hl => by rw [getD_replicate_false] at hl; cases hl), fun t ht ht2 => by simp at ht2; simp [ht2]⟩ (by simp) (fun i hi => by simp [hi, show i < l.length by omega]) (wpAny_of_held _ _ _ _ (h hS))
  rw [List.length_drop] at h6
  rw [show l.toArray.size = n + (l.length - n) by simp; omega, show Array.replicate (n + (l.length - n)) false = Array.replicate l.length false by congr 1; omega]
  exact h6
end
end Go.Proofs.YtidcedilfhmllaaDoor

/- Contracts of package plate: advance. -/
namespace Pl
/-- a working in the direction of a step -/
def dirW (L : List Wk) (k : Int) : Wk := if k < 0 then ⟨(L.getD (wof k).toNat noW).b, (L.getD (wof k).toNat noW).a, (inv (L.getD (wof k).toNat noW).t.toNat : Nat)⟩ else L.getD (wof k).toNat noW
theorem adv_dir (L : List Wk) (s : St) (k : Int) : adv L s k = if (dirW L k).a = s.p then some ⟨(dirW L k).b, cmp s.t (dirW L k).t.toNat, !s.m⟩ else none := by
  unfold adv dirW wof
  split
  · rename_i h
    simp
  · rfl
end Pl
namespace Go.Proofs.YtidcedilfhmllaaDoor
open Go.RowKit

/-- a state, as a value -/
def stV (y : Pl.St) : Value := .agg #[.int .i64 y.p, .int .i64 (y.t : Int), .bool y.m]

/-- a working in a box of its own -/
structure DA (X W : World) (lb : Nat) (l : Pl.Wk) : Prop where
  r : W.rowIs lb 61 3 (fun i => if i = 0 then .int .i64 l.a else if i = 1 then .int .i64 l.b else .int .i64 l.t)
  b : Below X.heap.size X W
  g : X.heap.size ≤ lb

theorem da_new (X : World) (f g u : Int) : DA X (X.alloc (Obj.cells #[.int .i64 f, .int .i64 g, .int .i64 u] 61)).drew X.heap.size ⟨f, g, u⟩ :=
  ⟨(World.rowIs_alloc X _ _ _ (fun i hi => by
    match i, hi with
    | 0, _ => rfl
    | 1, _ => rfl
    | 2, _ => rfl)).drew, ((Below.refl _ _).alloc (Nat.le_refl _) _).drew, Nat.le_refl _⟩
theorem DA.set {X W : World} {lb : Nat} {l : Pl.Wk} (h : DA X W lb l) (f g u : Int) : DA X (((W.setCell ⟨lb, 0, none⟩ (.int .i64 f)).setCell ⟨lb, 1, none⟩ (.int .i64 g)).setCell ⟨lb, 2, none⟩ (.int .i64 u)) lb ⟨f, g, u⟩ :=
  ⟨(((h.r.set 0 _).set 1 _).set 2 _).congr (fun i hi => by
    have : i = 0 ∨ i = 1 ∨ i = 2 := by omega
    rcases this with rfl | rfl | rfl <;> simp), ((h.b.setCell (p := ⟨lb, 0, none⟩) h.g _).setCell (p := ⟨lb, 1, none⟩) h.g _).setCell (p := ⟨lb, 2, none⟩) h.g _, h.g⟩
theorem DA.drew {X W : World} {lb : Nat} {l : Pl.Wk} (h : DA X W lb l) : DA X W.drew lb l := ⟨h.r.drew, h.b.drew, h.g⟩
theorem Below.row' {W W' : World} {b : Nat} {T : TypeId} {n : Nat} {f : Nat → Value} (h : Below W.heap.size W W') (hr : W.rowIs b T n f) : W'.rowIs b T n f := hr.of_block (h.block b hr.lt)
theorem stRow {X : World} : (X.alloc (Obj.cells #[.int .i64 0, .int .i64 0, .bool false] 111)).rowIs X.heap.size 111 3 (fun i => if i = 0 then .int .i64 0 else if i = 1 then .int .i64 0 else .bool false) :=
  World.rowIs_alloc X _ _ _ (fun i hi => by
    match i, hi with
    | 0, _ => rfl
    | 1, _ => rfl
    | 2, _ => rfl)

set_option maxRecDepth 100000 in
set_option maxHeartbeats 4000000 in
theorem advance_any (s m : Int) (a : Option Addr) (q cap : Nat) (L : List Pl.Wk) (hq : L.length = q) (hq2 : q ≤ 16) (hok : Hid (Pl.Ok m L)) (p : Int) (t : Nat) (mn : Bool) (ht : t < 8) (k : Int) (hk1 : -(q : Int) ≤ k) (hk2 : k < q) (w : World) (hL : Hid (WksAt w a L)) :
    Calls Tryd.prog 79 #[.agg #[.int .i64 s, .int .i64 m, .slice a q cap], .agg #[.int .i64 p, .int .i64 (t : Int), .bool mn], .int .i64 k] w fun e w' => e = .returned (.tuple (match Pl.adv L ⟨p, t, mn⟩ k with | some y => #[stV y, .bool true] | none => #[.agg #[.int .i64 0, .int .i64 0, .bool false], .bool false])) ∧ Below w.heap.size w w' := by
  obtain ⟨j, hj, hjq⟩ : ∃ j : Nat, Pl.wof k = j ∧ j < q := by
    refine ⟨(Pl.wof k).toNat, ?_, ?_⟩ <;> (unfold Pl.wof; split <;> omega)
  rw [Pl.adv_dir]
  have hdir : Pl.dirW L k = if k < 0 then ⟨(L.getD j Pl.noW).b, (L.getD j Pl.noW).a, (Pl.inv (L.getD j Pl.noW).t.toNat : Nat)⟩ else L.getD j Pl.noW := by
    unfold Pl.dirW
    rw [hj]
    rfl
  have HW := pWorkingOf_any k (by omega) (by omega)
  rw [hj] at HW
  replace HW := Lib.hid HW
  obtain ⟨x, rfl, hl3⟩ := hL.out j (by omega)
  obtain ⟨f, g, u, hl⟩ : ∃ f g u, L.getD j Pl.noW = ⟨f, g, u⟩ := ⟨_, _, _, rfl⟩
  have hokj := Pl.okW_spec (hok.out j (by omega))
  rw [hl] at hl3 hdir hokj
  obtain ⟨o1, o2, o3, o4, o5, o6, o7⟩ := hokj
  simp only at hdir o6 o7
  obtain ⟨un, hun⟩ : ∃ un : Nat, u = un := ⟨u.toNat, by omega⟩
  subst hun
  have hun8 : un < 8 := by omega
  have HI := Lib.hid (pInverse_any un hun8)
  rw [Int.toNat_natCast] at hdir
  replace hdir := Lib.hid hdir
  clear hl hj o1 o2 o3 o4 o5 o6 o7 hok
  obtain ⟨da, db, dc, hdw⟩ : ∃ (da db : Int) (dc : Nat), Pl.dirW L k = ⟨da, db, (dc : Int)⟩ := by
    rw [hdir.out]
    split
    · exact ⟨_, _, _, rfl⟩
    · exact ⟨_, _, _, rfl⟩
  have hdc : dc < 8 := by
    have h := hdw
    rw [hdir.out] at h
    split at h
    · have e := congrArg Pl.Wk.t h
      simp only at e
      have := Pl.inv_lt hun8
      omega
    · have e := congrArg Pl.Wk.t h
      simp only at e
      omega
  have hdir2 : Hid (Pl.Wk.mk da db (dc : Int) = if k < 0 then ⟨g, f, (Pl.inv un : Nat)⟩ else ⟨f, g, (un : Int)⟩) := Lib.hid (by rw [← hdw]; exact hdir.out)
  obtain ⟨rv, hrv⟩ : ∃ rv, (match (if (Pl.dirW L k).a = (⟨p, t, mn⟩ : Pl.St).p then some (⟨(Pl.dirW L k).b, Pl.cmp (⟨p, t, mn⟩ : Pl.St).t (Pl.dirW L k).t.toNat, !(⟨p, t, mn⟩ : Pl.St).m⟩ : Pl.St) else none) with | some y => #[stV y, .bool true] | none => #[.agg #[.int .i64 0, .int .i64 0, .bool false], .bool false]) = rv := ⟨_, rfl⟩
  rw [hrv]
  rw [hdw] at hrv
  simp only [Int.toNat_natCast] at hrv
  replace hrv := Lib.hid hrv
  clear hdw hdir
  have hj1 : (0 : Int) ≤ (j : Int) := by omega
  have hj2 : (j : Int) < (q : Int) := by omega
  have ⟨c0, c1, c2⟩ := hl3
  clear hl3 hL
  go_enter Tryd.func79, Tryd.ntmps79
  go_upto_region 1 with fail
  have zX : Hid ((((w.alloc (Obj.cells #[.int .i64 s, .int .i64 m, .slice (some x) q cap] 34)).alloc (Obj.cells #[.int .i64 p, .int .i64 (t : Int), .bool mn] 111)).alloc (Obj.cells #[.int .i64 0, .int .i64 0, .bool false] 111)).heap.size = w.heap.size + 3) := Lib.hid (by simp)
  have b2 : (((w.alloc (Obj.cells #[.int .i64 s, .int .i64 m, .slice (some x) q cap] 34)).alloc (Obj.cells #[.int .i64 p, .int .i64 (t : Int), .bool mn] 111)).alloc (Obj.cells #[.int .i64 0, .int .i64 0, .bool false] 111)).cell? ⟨w.heap.size, 2, none⟩ = some (.slice (some x) q cap) := by simp [go_sem]
  have d0 : (((w.alloc (Obj.cells #[.int .i64 s, .int .i64 m, .slice (some x) q cap] 34)).alloc (Obj.cells #[.int .i64 p, .int .i64 (t : Int), .bool mn] 111)).alloc (Obj.cells #[.int .i64 0, .int .i64 0, .bool false] 111)).cell? ⟨w.heap.size + 1, 0, none⟩ = some (.int .i64 p) := by simp [go_sem]
  have d1 : (((w.alloc (Obj.cells #[.int .i64 s, .int .i64 m, .slice (some x) q cap] 34)).alloc (Obj.cells #[.int .i64 p, .int .i64 (t : Int), .bool mn] 111)).alloc (Obj.cells #[.int .i64 0, .int .i64 0, .bool false] 111)).cell? ⟨w.heap.size + 1, 1, none⟩ = some (.int .i64 (t : Int)) := by simp [go_sem]
  have d2 : (((w.alloc (Obj.cells #[.int .i64 s, .int .i64 m, .slice (some x) q cap] 34)).alloc (Obj.cells #[.int .i64 p, .int .i64 (t : Int), .bool mn] 111)).alloc (Obj.cells #[.int .i64 0, .int .i64 0, .bool false] 111)).cell? ⟨w.heap.size + 1, 2, none⟩ = some (.bool mn) := by simp [go_sem]
  have rX : (((w.alloc (Obj.cells #[.int .i64 s, .int .i64 m, .slice (some x) q cap] 34)).alloc (Obj.cells #[.int .i64 p, .int .i64 (t : Int), .bool mn] 111)).alloc (Obj.cells #[.int .i64 0, .int .i64 0, .bool false] 111)).rowIs (w.heap.size + 1 + 1) 111 3 (fun i => if i = 0 then .int .i64 0 else if i = 1 then .int .i64 0 else .bool false) := by
    have h := stRow (X := (w.alloc (Obj.cells #[.int .i64 s, .int .i64 m, .slice (some x) q cap] 34)).alloc (Obj.cells #[.int .i64 p, .int .i64 (t : Int), .bool mn] 111))
    simpa using h
  have hv : Below w.heap.size w (((w.alloc (Obj.cells #[.int .i64 s, .int .i64 m, .slice (some x) q cap] 34)).alloc (Obj.cells #[.int .i64 p, .int .i64 (t : Int), .bool mn] 111)).alloc (Obj.cells #[.int .i64 0, .int .i64 0, .bool false] 111)) := below_alloc (below_alloc (below_alloc (Below.refl _ _) _) _) _
  replace c0 := kept1 c0 hv
  replace c1 := kept1 c1 hv
  replace c2 := kept1 c2 hv
  generalize ((w.alloc (Obj.cells #[.int .i64 s, .int .i64 m, .slice (some x) q cap] 34)).alloc (Obj.cells #[.int .i64 p, .int .i64 (t : Int), .bool mn] 111)).alloc (Obj.cells #[.int .i64 0, .int .i64 0, .bool false] 111) = X at *
  go_cut [8] from 9 to 14 (fun s8 wx => ∃ lb, s8 = .pointer (some ⟨lb, 0, none⟩) ∧ Hid (DA X wx lb ⟨f, g, (un : Int)⟩))
  case first =>
    have S0 : X.drew.cell? ⟨w.heap.size, 2, none⟩ = some (.slice (some x) q cap) ∧ X.drew.cell? (x.add (j * 3)) = some (.int .i64 f) ∧ X.drew.cell? ⟨(x.add (j * 3)).block, (x.add (j * 3)).off + 1, none⟩ = some (.int .i64 g) ∧ X.drew.cell? ⟨(x.add (j * 3)).block, (x.add (j * 3)).off + 2, none⟩ = some (.int .i64 (un : Int)) ∧ Below X.heap.size X X.drew := ⟨b2, c0, c1, c2, (Below.refl _ _).drew⟩
    have S1 : X.cell? ⟨w.heap.size, 2, none⟩ = some (.slice (some x) q cap) ∧ X.cell? (x.add (j * 3)) = some (.int .i64 f) ∧ X.cell? ⟨(x.add (j * 3)).block, (x.add (j * 3)).off + 1, none⟩ = some (.int .i64 g) ∧ X.cell? ⟨(x.add (j * 3)).block, (x.add (j * 3)).off + 2, none⟩ = some (.int .i64 (un : Int)) ∧ Below X.heap.size X X := ⟨b2, c0, c1, c2, Below.refl _ _⟩
    clear d0 d1 d2 rX hv
    go_region_held3 (fun w' => w'.cell? ⟨w.heap.size, 2, none⟩ = some (.slice (some x) q cap) ∧ w'.cell? (x.add (j * 3)) = some (.int .i64 f) ∧ w'.cell? ⟨(x.add (j * 3)).block, (x.add (j * 3)).off + 1, none⟩ = some (.int .i64 g) ∧ w'.cell? ⟨(x.add (j * 3)).block, (x.add (j * 3)).off + 2, none⟩ = some (.int .i64 (un : Int)) ∧ Below X.heap.size X w')
      (first | with_reducible exact S0 | with_reducible assumption | exact keep4 S1 (by repeat (first | with_reducible exact Below.refl _ _ | with_reducible assumption | refine below_drewN ?_ _ | refine Below.drew ?_ | refine Below.alloc ?_ (by first | (simp; done) | (simp; omega) | omega) _ | refine Below.setCell ?_ (by first | (simp; done) | (simp; omega) | omega) _ | refine Below.trans ?_ (Below.mono (by assumption) (by first | (simp; done) | (simp; omega) | omega)))))
      (first
        | (with_reducible refine (HW.out _).mono ?_
           rintro e wp ⟨he, hbp⟩
           subst he
           subst hbp))
    all_goals go_wp2_with fail
    all_goals go_meet
    all_goals exact ⟨_, rfl, Lib.hid (da_new X f g (un : Int))⟩
  case rest =>
    generalize wc = Y at hcut ⊢
    clear wc
    obtain ⟨lb, rfl, HT⟩ := hcut
    clear b2 c0 c1 c2 HW
    by_cases hk0 : k < 0
    · have e := hdir2.out
      rw [if_pos hk0] at e
      simp only [Pl.Wk.mk.injEq] at e
      obtain ⟨rfl, rfl, e3⟩ := e
      have g0 : Y.cell? ⟨lb, 0, none⟩ = some (.int .i64 db) := HT.out.r.cell (i := 0) (by omega)
      have g1 : Y.cell? ⟨lb, 1, none⟩ = some (.int .i64 da) := HT.out.r.cell (i := 1) (by omega)
      have g2 : Y.cell? ⟨lb, 2, none⟩ = some (.int .i64 (un : Int)) := HT.out.r.cell (i := 2) (by omega)
      have g0' : Y.drew.cell? ⟨lb, 0, none⟩ = some (.int .i64 db) := g0
      have g1' : Y.drew.cell? ⟨lb, 1, none⟩ = some (.int .i64 da) := g1
      have g2' : Y.drew.cell? ⟨lb, 2, none⟩ = some (.int .i64 (un : Int)) := g2
      have y0 : Y.frozen? ⟨lb, 0, none⟩ = false := HT.out.r.frozen 0
      have y1 : Y.frozen? ⟨lb, 1, none⟩ = false := HT.out.r.frozen 1
      have y2 : Y.frozen? ⟨lb, 2, none⟩ = false := HT.out.r.frozen 2
      have f0 : Y.drew.frozen? ⟨lb, 0, none⟩ = false := HT.out.r.frozen 0
      have f1 : Y.drew.frozen? ⟨lb, 1, none⟩ = false := HT.out.r.frozen 1
      have f2 : Y.drew.frozen? ⟨lb, 2, none⟩ = false := HT.out.r.frozen 2
      rw [← e3] at HI
      clear e3 hdir2
      have HT' := Lib.hid ((HT.out.set da db (dc : Int)).drew)
      have hYb := HT.out.b
      have hlb := HT.out.g
      have S0 : Y.drew.cell? ⟨lb, 0, none⟩ = some (.int .i64 db) ∧ Y.drew.cell? ⟨lb, 1, none⟩ = some (.int .i64 da) ∧ Y.drew.cell? ⟨lb, 2, none⟩ = some (.int .i64 (un : Int)) ∧ Below X.heap.size X Y.drew := ⟨g0, g1, g2, hYb.drew⟩
      clear HT
      go_upto_region 3 with fail
      refine region_head_held 8 (fun w' => w'.cell? ⟨lb, 0, none⟩ = some (.int .i64 db) ∧ w'.cell? ⟨lb, 1, none⟩ = some (.int .i64 da) ∧ w'.cell? ⟨lb, 2, none⟩ = some (.int .i64 (un : Int)) ∧ Below X.heap.size X w') (by kernel_rfl) (by kernel_rfl) S0 (fun hHeld => ?_)
      simp only [List.take_succ_cons, List.take_zero, List.drop_succ_cons, List.drop_zero]
      refine wpAnyH_take (i := 0) (v := ?_) rfl (by kernel_rfl) (by kernel_rfl) (by kernel_rfl) (fun _ _ _ h => h) (Or.inl ⟨by rfl, ?_⟩) (by assumption) ?_
      rotate_left 1
      · (intro w hSw; (try dsimp only at hSw); go_simp; all_goals with_reducible rfl)
      try simp only [Act.put, List.setIfInBounds_toArray, List.set_cons_zero, List.set_cons_succ]
      refine wpAnyH_take (i := 1) (v := ?_) rfl (by kernel_rfl) (by kernel_rfl) (by kernel_rfl) (fun _ _ _ h => h) (Or.inl ⟨by rfl, ?_⟩) (by assumption) ?_
      rotate_left 1
      · (intro w hSw; (try dsimp only at hSw); go_simp; all_goals with_reducible rfl)
      try simp only [Act.put, List.setIfInBounds_toArray, List.set_cons_zero, List.set_cons_succ]
      refine wpAnyH_take (i := 2) (v := ?_) rfl (by kernel_rfl) (by kernel_rfl) (by kernel_rfl) (fun _ _ _ h => h) (Or.inl ⟨by rfl, ?_⟩) (by assumption) ?_
      rotate_left 1
      · (intro w hSw; (try dsimp only at hSw); go_simp; all_goals with_reducible rfl)
      try simp only [Act.put, List.setIfInBounds_toArray, List.set_cons_zero, List.set_cons_succ]
      refine wpAnyH_take (i := 3) (v := ?_) rfl (by kernel_rfl) (by kernel_rfl) (by kernel_rfl) (fun _ _ _ h => h) (Or.inl ⟨by rfl, ?_⟩) (by assumption) ?_
      rotate_left 1
      · (intro w hSw; (try dsimp only at hSw); go_simp; all_goals with_reducible rfl)
      try simp only [Act.put, List.setIfInBounds_toArray, List.set_cons_zero, List.set_cons_succ]
      refine wpAnyH_take (i := 4) (v := ?_) rfl (by kernel_rfl) (by kernel_rfl) (by kernel_rfl) (fun _ _ _ h => h) (Or.inl ⟨by rfl, ?_⟩) (by assumption) ?_
      rotate_left 1
      · (intro w hSw; (try dsimp only at hSw); go_simp; all_goals with_reducible rfl)
      try simp only [Act.put, List.setIfInBounds_toArray, List.set_cons_zero, List.set_cons_succ]
      refine wpAnyH_take (i := 5) (v := ?_) rfl (by kernel_rfl) (by kernel_rfl) (by kernel_rfl) (fun _ _ _ h => h) (Or.inl ⟨by rfl, ?_⟩) (by assumption) ?_
      rotate_left 1
      · (intro w hSw; (try dsimp only at hSw); go_simp; all_goals with_reducible rfl)
      try simp only [Act.put, List.setIfInBounds_toArray, List.set_cons_zero, List.set_cons_succ]
      refine wpAnyH_ready (rs := [6]) (by kernel_rfl) (by simp) ?_
      refine AllReadyH.cons rfl (fun K hK => ?_) ?_
      rotate_left 1
      · exact AllReadyH.nil
      go_simp
      with_reducible refine (HI.out _).mono ?_
      rintro e wp ⟨he, hbp⟩
      subst he
      subst hbp
      refine hK.out _ _ hHeld (fun hHeld2 => ?_)
      clear hK K
      try simp only [Act.put, List.setIfInBounds_toArray, List.set_cons_zero, List.set_cons_succ]
      refine wpAnyH_take (i := 7) (v := ?_) rfl (by kernel_rfl) (by kernel_rfl) (by kernel_rfl) (fun _ _ _ h => h) (Or.inl ⟨by rfl, ?_⟩) (by assumption) ?_
      rotate_left 1
      · (intro w hSw; (try dsimp only at hSw); go_simp; all_goals with_reducible rfl)
      try simp only [Act.put, List.setIfInBounds_toArray, List.set_cons_zero, List.set_cons_succ]
      refine wpAnyH_done (by kernel_rfl) ?_ _
      show wpList _ _ _ _ _ _
      clear hHeld hHeld2 S0
      go_upto_region 4 with fail
      generalize (((Y.setCell ⟨lb, 0, none⟩ (.int .i64 da)).setCell ⟨lb, 1, none⟩ (.int .i64 db)).setCell ⟨lb, 2, none⟩ (.int .i64 (dc : Int))).drew = Z at *
      clear g0 g1 g2 g0' g1' g2' f0 f1 f2 y0 y1 y2
      have HT := HT'
      have g0 : Z.cell? ⟨lb, 0, none⟩ = some (.int .i64 da) := HT.out.r.cell (i := 0) (by omega)
      have g1 : Z.cell? ⟨lb, 1, none⟩ = some (.int .i64 db) := HT.out.r.cell (i := 1) (by omega)
      have g2 : Z.cell? ⟨lb, 2, none⟩ = some (.int .i64 (dc : Int)) := HT.out.r.cell (i := 2) (by omega)
      have e0 := kept1 d0 HT.out.b
      have e1 := kept1 d1 HT.out.b
      have e2 := kept1 d2 HT.out.b
      have rQ := Below.row' HT.out.b rX
      have bY := Lib.hid (hv.trans (HT.out.b.mono hv.size))
      have t0 : Z.cell? ⟨w.heap.size + 1 + 1, 0, none⟩ = some (.int .i64 0) := rQ.cell (i := 0) (by omega)
      have t1 : Z.cell? ⟨w.heap.size + 1 + 1, 1, none⟩ = some (.int .i64 0) := rQ.cell (i := 1) (by omega)
      have t2 : Z.cell? ⟨w.heap.size + 1 + 1, 2, none⟩ = some (.bool false) := rQ.cell (i := 2) (by omega)
      have tz0 := rQ.frozen 0
      have tz1 := rQ.frozen 1
      have tz2 := rQ.frozen 2
      clear HT d0 d1 d2 rX hv
      by_cases hpa : da = p
      · obtain ⟨ct, hct⟩ : ∃ ct, Pl.cmp t dc = ct := ⟨_, rfl⟩
        have hra : rv = #[.agg #[.int .i64 db, .int .i64 (ct : Int), .bool (!mn)], .bool true] := by rw [← hrv.out, if_pos hpa, ← hct]; rfl
        subst hra
        subst hpa
        have HC := pCompose_any t dc ht hdc
        rw [hct] at HC
        replace HC := Lib.hid HC
        clear hct hrv
        go_upto_region 6 with fail
        have S0 : Z.drew.cell? ⟨lb, 1, none⟩ = some (.int .i64 db) ∧ Z.drew.cell? ⟨lb, 2, none⟩ = some (.int .i64 (dc : Int)) ∧ Z.drew.cell? ⟨w.heap.size + 1, 1, none⟩ = some (.int .i64 (t : Int)) ∧ Z.drew.cell? ⟨w.heap.size + 1, 2, none⟩ = some (.bool mn) := ⟨g1, g2, e1, e2⟩
        clear g0 g1 g2 e0 e1 e2
        refine region_head_held 14 (fun w' => w'.cell? ⟨lb, 1, none⟩ = some (.int .i64 db) ∧ w'.cell? ⟨lb, 2, none⟩ = some (.int .i64 (dc : Int)) ∧ w'.cell? ⟨w.heap.size + 1, 1, none⟩ = some (.int .i64 (t : Int)) ∧ w'.cell? ⟨w.heap.size + 1, 2, none⟩ = some (.bool mn)) (by kernel_rfl) (by kernel_rfl) S0 (fun hHeld => ?_)
        simp only [List.take_succ_cons, List.take_zero, List.drop_succ_cons, List.drop_zero]
        refine wpAnyH_take (i := 0) (v := ?_) rfl (by kernel_rfl) (by kernel_rfl) (by kernel_rfl) (fun _ _ _ h => h) (Or.inl ⟨by rfl, ?_⟩) (by assumption) ?_
        rotate_left 1
        · (intro w hSw; (try dsimp only at hSw); go_simp; all_goals with_reducible rfl)
        try simp only [Act.put, List.setIfInBounds_toArray, List.set_cons_zero, List.set_cons_succ]
        refine wpAnyH_take (i := 1) (v := ?_) rfl (by kernel_rfl) (by kernel_rfl) (by kernel_rfl) (fun _ _ _ h => h) (Or.inl ⟨by rfl, ?_⟩) (by assumption) ?_
        rotate_left 1
        · (intro w hSw; (try dsimp only at hSw); go_simp; all_goals with_reducible rfl)
        try simp only [Act.put, List.setIfInBounds_toArray, List.set_cons_zero, List.set_cons_succ]
        refine wpAnyH_take (i := 2) (v := ?_) rfl (by kernel_rfl) (by kernel_rfl) (by kernel_rfl) (fun _ _ _ h => h) (Or.inl ⟨by rfl, ?_⟩) (by assumption) ?_
        rotate_left 1
        · (intro w hSw; (try dsimp only at hSw); go_simp; all_goals with_reducible rfl)
        try simp only [Act.put, List.setIfInBounds_toArray, List.set_cons_zero, List.set_cons_succ]
        refine wpAnyH_take (i := 3) (v := ?_) rfl (by kernel_rfl) (by kernel_rfl) (by kernel_rfl) (fun _ _ _ h => h) (Or.inl ⟨by rfl, ?_⟩) (by assumption) ?_
        rotate_left 1
        · (intro w hSw; (try dsimp only at hSw); go_simp; all_goals with_reducible rfl)
        try simp only [Act.put, List.setIfInBounds_toArray, List.set_cons_zero, List.set_cons_succ]
        refine wpAnyH_take (i := 4) (v := ?_) rfl (by kernel_rfl) (by kernel_rfl) (by kernel_rfl) (fun _ _ _ h => h) (Or.inl ⟨by rfl, ?_⟩) (by assumption) ?_
        rotate_left 1
        · (intro w hSw; (try dsimp only at hSw); go_simp; all_goals with_reducible rfl)
        try simp only [Act.put, List.setIfInBounds_toArray, List.set_cons_zero, List.set_cons_succ]
        refine wpAnyH_take (i := 5) (v := ?_) rfl (by kernel_rfl) (by kernel_rfl) (by kernel_rfl) (fun _ _ _ h => h) (Or.inl ⟨by rfl, ?_⟩) (by assumption) ?_
        rotate_left 1
        · (intro w hSw; (try dsimp only at hSw); go_simp; all_goals with_reducible rfl)
        try simp only [Act.put, List.setIfInBounds_toArray, List.set_cons_zero, List.set_cons_succ]
        refine wpAnyH_take (i := 6) (v := ?_) rfl (by kernel_rfl) (by kernel_rfl) (by kernel_rfl) (fun _ _ _ h => h) (Or.inl ⟨by rfl, ?_⟩) (by assumption) ?_
        rotate_left 1
        · (intro w hSw; (try dsimp only at hSw); go_simp; all_goals with_reducible rfl)
        try simp only [Act.put, List.setIfInBounds_toArray, List.set_cons_zero, List.set_cons_succ]
        refine wpAnyH_take (i := 8) (v := ?_) rfl (by kernel_rfl) (by kernel_rfl) (by kernel_rfl) (fun _ _ _ h => h) (Or.inl ⟨by rfl, ?_⟩) (by assumption) ?_
        rotate_left 1
        · (intro w hSw; (try dsimp only at hSw); go_simp; all_goals with_reducible rfl)
        try simp only [Act.put, List.setIfInBounds_toArray, List.set_cons_zero, List.set_cons_succ]
        refine wpAnyH_take (i := 9) (v := ?_) rfl (by kernel_rfl) (by kernel_rfl) (by kernel_rfl) (fun _ _ _ h => h) (Or.inl ⟨by rfl, ?_⟩) (by assumption) ?_
        rotate_left 1
        · (intro w hSw; (try dsimp only at hSw); go_simp; all_goals with_reducible rfl)
        try simp only [Act.put, List.setIfInBounds_toArray, List.set_cons_zero, List.set_cons_succ]
        refine wpAnyH_take (i := 10) (v := ?_) rfl (by kernel_rfl) (by kernel_rfl) (by kernel_rfl) (fun _ _ _ h => h) (Or.inl ⟨by rfl, ?_⟩) (by assumption) ?_
        rotate_left 1
        · (intro w hSw; (try dsimp only at hSw); go_simp; all_goals with_reducible rfl)
        try simp only [Act.put, List.setIfInBounds_toArray, List.set_cons_zero, List.set_cons_succ]
        refine wpAnyH_take (i := 11) (v := ?_) rfl (by kernel_rfl) (by kernel_rfl) (by kernel_rfl) (fun _ _ _ h => h) (Or.inl ⟨by rfl, ?_⟩) (by assumption) ?_
        rotate_left 1
        · (intro w hSw; (try dsimp only at hSw); go_simp; all_goals with_reducible rfl)
        try simp only [Act.put, List.setIfInBounds_toArray, List.set_cons_zero, List.set_cons_succ]
        refine wpAnyH_ready (rs := [7]) (by kernel_rfl) (by simp) ?_
        refine AllReadyH.cons rfl (fun K hK => ?_) ?_
        rotate_left 1
        · exact AllReadyH.nil
        go_simp
        with_reducible refine (HC.out _).mono ?_
        rintro e wp ⟨he, hbp⟩
        subst he
        subst hbp
        refine hK.out _ _ hHeld (fun hHeld2 => ?_)
        clear hK K
        try simp only [Act.put, List.setIfInBounds_toArray, List.set_cons_zero, List.set_cons_succ]
        refine wpAnyH_take (i := 12) (v := ?_) rfl (by kernel_rfl) (by kernel_rfl) (by kernel_rfl) (fun _ _ _ h => h) (Or.inl ⟨by rfl, ?_⟩) (by assumption) ?_
        rotate_left 1
        · (intro w hSw; (try dsimp only at hSw); go_simp; all_goals with_reducible rfl)
        try simp only [Act.put, List.setIfInBounds_toArray, List.set_cons_zero, List.set_cons_succ]
        refine wpAnyH_take (i := 13) (v := ?_) rfl (by kernel_rfl) (by kernel_rfl) (by kernel_rfl) (fun _ _ _ h => h) (Or.inl ⟨by rfl, ?_⟩) (by assumption) ?_
        rotate_left 1
        · (intro w hSw; (try dsimp only at hSw); go_simp; all_goals with_reducible rfl)
        try simp only [Act.put, List.setIfInBounds_toArray, List.set_cons_zero, List.set_cons_succ]
        refine wpAnyH_done (by kernel_rfl) ?_ _
        show wpList _ _ _ _ _ _
        clear hHeld hHeld2 S0
        have hq0 : (((Z.setCell ⟨w.heap.size + 1 + 1, 0, none⟩ (.int .i64 db)).setCell ⟨w.heap.size + 1 + 1, 1, none⟩ (.int .i64 (ct : Int))).setCell ⟨w.heap.size + 1 + 1, 2, none⟩ (.bool (!mn))).cell? ⟨w.heap.size + 1 + 1, 0, none⟩ = some (.int .i64 db) := (((rQ.set 0 (.int .i64 db)).set 1 (.int .i64 (ct : Int))).set 2 (.bool (!mn))).cell (i := 0) (by omega)
        have hq1 : (((Z.setCell ⟨w.heap.size + 1 + 1, 0, none⟩ (.int .i64 db)).setCell ⟨w.heap.size + 1 + 1, 1, none⟩ (.int .i64 (ct : Int))).setCell ⟨w.heap.size + 1 + 1, 2, none⟩ (.bool (!mn))).cell? ⟨w.heap.size + 1 + 1, 1, none⟩ = some (.int .i64 (ct : Int)) := (((rQ.set 0 (.int .i64 db)).set 1 (.int .i64 (ct : Int))).set 2 (.bool (!mn))).cell (i := 1) (by omega)
        have hq2 : (((Z.setCell ⟨w.heap.size + 1 + 1, 0, none⟩ (.int .i64 db)).setCell ⟨w.heap.size + 1 + 1, 1, none⟩ (.int .i64 (ct : Int))).setCell ⟨w.heap.size + 1 + 1, 2, none⟩ (.bool (!mn))).cell? ⟨w.heap.size + 1 + 1, 2, none⟩ = some (.bool (!mn)) := (((rQ.set 0 (.int .i64 db)).set 1 (.int .i64 (ct : Int))).set 2 (.bool (!mn))).cell (i := 2) (by omega)
        have hZ : Below w.heap.size w (((Z.setCell ⟨w.heap.size + 1 + 1, 0, none⟩ (.int .i64 db)).setCell ⟨w.heap.size + 1 + 1, 1, none⟩ (.int .i64 (ct : Int))).setCell ⟨w.heap.size + 1 + 1, 2, none⟩ (.bool (!mn))) := ((bY.out.setCell (p := ⟨w.heap.size + 1 + 1, 0, none⟩) (by show w.heap.size ≤ w.heap.size + 1 + 1; omega) _).setCell (p := ⟨w.heap.size + 1 + 1, 1, none⟩) (by show w.heap.size ≤ w.heap.size + 1 + 1; omega) _).setCell (p := ⟨w.heap.size + 1 + 1, 2, none⟩) (by show w.heap.size ≤ w.heap.size + 1 + 1; omega) _
        go_wp2
        clear t0 t1 t2 tz0 tz1 tz2
        generalize ((Z.setCell ⟨w.heap.size + 1 + 1, 0, none⟩ (.int .i64 db)).setCell ⟨w.heap.size + 1 + 1, 1, none⟩ (.int .i64 (ct : Int))).setCell ⟨w.heap.size + 1 + 1, 2, none⟩ (.bool (!mn)) = V at *
        refine bodyPost_ret (v := .tuple #[.agg #[.int .i64 db, .int .i64 (ct : Int), .bool (!mn)], .bool true]) (by simp [results, Tryd.results79, go_sem, hq0, hq1, hq2]) rfl ?_
        exact ⟨rfl, hZ.drew⟩
      · have hra : rv = #[.agg #[.int .i64 0, .int .i64 0, .bool false], .bool false] := by rw [← hrv.out, if_neg hpa]
        subst hra
        have n0 : (da != p) = true := by simpa using hpa
        have hq0 : (((Z.setCell ⟨w.heap.size + 1 + 1, 0, none⟩ (.int .i64 0)).setCell ⟨w.heap.size + 1 + 1, 1, none⟩ (.int .i64 0)).setCell ⟨w.heap.size + 1 + 1, 2, none⟩ (.bool false)).cell? ⟨w.heap.size + 1 + 1, 0, none⟩ = some (.int .i64 0) := (((rQ.set 0 (.int .i64 0)).set 1 (.int .i64 0)).set 2 (.bool false)).cell (i := 0) (by omega)
        have hq1 : (((Z.setCell ⟨w.heap.size + 1 + 1, 0, none⟩ (.int .i64 0)).setCell ⟨w.heap.size + 1 + 1, 1, none⟩ (.int .i64 0)).setCell ⟨w.heap.size + 1 + 1, 2, none⟩ (.bool false)).cell? ⟨w.heap.size + 1 + 1, 1, none⟩ = some (.int .i64 0) := (((rQ.set 0 (.int .i64 0)).set 1 (.int .i64 0)).set 2 (.bool false)).cell (i := 1) (by omega)
        have hq2 : (((Z.setCell ⟨w.heap.size + 1 + 1, 0, none⟩ (.int .i64 0)).setCell ⟨w.heap.size + 1 + 1, 1, none⟩ (.int .i64 0)).setCell ⟨w.heap.size + 1 + 1, 2, none⟩ (.bool false)).cell? ⟨w.heap.size + 1 + 1, 2, none⟩ = some (.bool false) := (((rQ.set 0 (.int .i64 0)).set 1 (.int .i64 0)).set 2 (.bool false)).cell (i := 2) (by omega)
        have hZ : Below w.heap.size w (((Z.setCell ⟨w.heap.size + 1 + 1, 0, none⟩ (.int .i64 0)).setCell ⟨w.heap.size + 1 + 1, 1, none⟩ (.int .i64 0)).setCell ⟨w.heap.size + 1 + 1, 2, none⟩ (.bool false)) := ((bY.out.setCell (p := ⟨w.heap.size + 1 + 1, 0, none⟩) (by show w.heap.size ≤ w.heap.size + 1 + 1; omega) _).setCell (p := ⟨w.heap.size + 1 + 1, 1, none⟩) (by show w.heap.size ≤ w.heap.size + 1 + 1; omega) _).setCell (p := ⟨w.heap.size + 1 + 1, 2, none⟩) (by show w.heap.size ≤ w.heap.size + 1 + 1; omega) _
        go_wp2
        clear t0 t1 t2 tz0 tz1 tz2
        generalize ((Z.setCell ⟨w.heap.size + 1 + 1, 0, none⟩ (.int .i64 0)).setCell ⟨w.heap.size + 1 + 1, 1, none⟩ (.int .i64 0)).setCell ⟨w.heap.size + 1 + 1, 2, none⟩ (.bool false) = V at *
        refine bodyPost_ret (v := .tuple #[.agg #[.int .i64 0, .int .i64 0, .bool false], .bool false]) (by simp [results, Tryd.results79, go_sem, hq0, hq1, hq2]) rfl ?_
        exact ⟨rfl, hZ⟩
    · have e := hdir2.out
      rw [if_neg hk0] at e
      simp only [Pl.Wk.mk.injEq] at e
      obtain ⟨rfl, rfl, e3⟩ := e
      rw [← e3] at HT
      clear e3 hdir2 HI
      have g0 : Y.cell? ⟨lb, 0, none⟩ = some (.int .i64 da) := HT.out.r.cell (i := 0) (by omega)
      have g1 : Y.cell? ⟨lb, 1, none⟩ = some (.int .i64 db) := HT.out.r.cell (i := 1) (by omega)
      have g2 : Y.cell? ⟨lb, 2, none⟩ = some (.int .i64 (dc : Int)) := HT.out.r.cell (i := 2) (by omega)
      have e0 := kept1 d0 HT.out.b
      have e1 := kept1 d1 HT.out.b
      have e2 := kept1 d2 HT.out.b
      have rQ := Below.row' HT.out.b rX
      have bY := Lib.hid (hv.trans (HT.out.b.mono hv.size))
      have t0 : Y.cell? ⟨w.heap.size + 1 + 1, 0, none⟩ = some (.int .i64 0) := rQ.cell (i := 0) (by omega)
      have t1 : Y.cell? ⟨w.heap.size + 1 + 1, 1, none⟩ = some (.int .i64 0) := rQ.cell (i := 1) (by omega)
      have t2 : Y.cell? ⟨w.heap.size + 1 + 1, 2, none⟩ = some (.bool false) := rQ.cell (i := 2) (by omega)
      have tz0 := rQ.frozen 0
      have tz1 := rQ.frozen 1
      have tz2 := rQ.frozen 2
      clear HT d0 d1 d2 rX hv
      by_cases hpa : da = p
      · obtain ⟨ct, hct⟩ : ∃ ct, Pl.cmp t dc = ct := ⟨_, rfl⟩
        have hra : rv = #[.agg #[.int .i64 db, .int .i64 (ct : Int), .bool (!mn)], .bool true] := by rw [← hrv.out, if_pos hpa, ← hct]; rfl
        subst hra
        subst hpa
        have HC := pCompose_any t dc ht hdc
        rw [hct] at HC
        replace HC := Lib.hid HC
        clear hct hrv
        go_upto_region 6 with fail
        have S0 : Y.drew.cell? ⟨lb, 1, none⟩ = some (.int .i64 db) ∧ Y.drew.cell? ⟨lb, 2, none⟩ = some (.int .i64 (dc : Int)) ∧ Y.drew.cell? ⟨w.heap.size + 1, 1, none⟩ = some (.int .i64 (t : Int)) ∧ Y.drew.cell? ⟨w.heap.size + 1, 2, none⟩ = some (.bool mn) := ⟨g1, g2, e1, e2⟩
        clear g0 g1 g2 e0 e1 e2
        refine region_head_held 14 (fun w' => w'.cell? ⟨lb, 1, none⟩ = some (.int .i64 db) ∧ w'.cell? ⟨lb, 2, none⟩ = some (.int .i64 (dc : Int)) ∧ w'.cell? ⟨w.heap.size + 1, 1, none⟩ = some (.int .i64 (t : Int)) ∧ w'.cell? ⟨w.heap.size + 1, 2, none⟩ = some (.bool mn)) (by kernel_rfl) (by kernel_rfl) S0 (fun hHeld => ?_)
        simp only [List.take_succ_cons, List.take_zero, List.drop_succ_cons, List.drop_zero]
        refine wpAnyH_take (i := 0) (v := ?_) rfl (by kernel_rfl) (by kernel_rfl) (by kernel_rfl) (fun _ _ _ h => h) (Or.inl ⟨by rfl, ?_⟩) (by assumption) ?_
        rotate_left 1
        · (intro w hSw; (try dsimp only at hSw); go_simp; all_goals with_reducible rfl)
        try simp only [Act.put, List.setIfInBounds_toArray, List.set_cons_zero, List.set_cons_succ]
        refine wpAnyH_take (i := 1) (v := ?_) rfl (by kernel_rfl) (by kernel_rfl) (by kernel_rfl) (fun _ _ _ h => h) (Or.inl ⟨by rfl, ?_⟩) (by assumption) ?_
        rotate_left 1
        · (intro w hSw; (try dsimp only at hSw); go_simp; all_goals with_reducible rfl)
        try simp only [Act.put, List.setIfInBounds_toArray, List.set_cons_zero, List.set_cons_succ]
        refine wpAnyH_take (i := 2) (v := ?_) rfl (by kernel_rfl) (by kernel_rfl) (by kernel_rfl) (fun _ _ _ h => h) (Or.inl ⟨by rfl, ?_⟩) (by assumption) ?_
        rotate_left 1
        · (intro w hSw; (try dsimp only at hSw); go_simp; all_goals with_reducible rfl)
        try simp only [Act.put, List.setIfInBounds_toArray, List.set_cons_zero, List.set_cons_succ]
        refine wpAnyH_take (i := 3) (v := ?_) rfl (by kernel_rfl) (by kernel_rfl) (by kernel_rfl) (fun _ _ _ h => h) (Or.inl ⟨by rfl, ?_⟩) (by assumption) ?_
        rotate_left 1
        · (intro w hSw; (try dsimp only at hSw); go_simp; all_goals with_reducible rfl)
        try simp only [Act.put, List.setIfInBounds_toArray, List.set_cons_zero, List.set_cons_succ]
        refine wpAnyH_take (i := 4) (v := ?_) rfl (by kernel_rfl) (by kernel_rfl) (by kernel_rfl) (fun _ _ _ h => h) (Or.inl ⟨by rfl, ?_⟩) (by assumption) ?_
        rotate_left 1
        · (intro w hSw; (try dsimp only at hSw); go_simp; all_goals with_reducible rfl)
        try simp only [Act.put, List.setIfInBounds_toArray, List.set_cons_zero, List.set_cons_succ]
        refine wpAnyH_take (i := 5) (v := ?_) rfl (by kernel_rfl) (by kernel_rfl) (by kernel_rfl) (fun _ _ _ h => h) (Or.inl ⟨by rfl, ?_⟩) (by assumption) ?_
        rotate_left 1
        · (intro w hSw; (try dsimp only at hSw); go_simp; all_goals with_reducible rfl)
        try simp only [Act.put, List.setIfInBounds_toArray, List.set_cons_zero, List.set_cons_succ]
        refine wpAnyH_take (i := 6) (v := ?_) rfl (by kernel_rfl) (by kernel_rfl) (by kernel_rfl) (fun _ _ _ h => h) (Or.inl ⟨by rfl, ?_⟩) (by assumption) ?_
        rotate_left 1
        · (intro w hSw; (try dsimp only at hSw); go_simp; all_goals with_reducible rfl)
        try simp only [Act.put, List.setIfInBounds_toArray, List.set_cons_zero, List.set_cons_succ]
        refine wpAnyH_take (i := 8) (v := ?_) rfl (by kernel_rfl) (by kernel_rfl) (by kernel_rfl) (fun _ _ _ h => h) (Or.inl ⟨by rfl, ?_⟩) (by assumption) ?_
        rotate_left 1
        · (intro w hSw; (try dsimp only at hSw); go_simp; all_goals with_reducible rfl)
        try simp only [Act.put, List.setIfInBounds_toArray, List.set_cons_zero, List.set_cons_succ]
        refine wpAnyH_take (i := 9) (v := ?_) rfl (by kernel_rfl) (by kernel_rfl) (by kernel_rfl) (fun _ _ _ h => h) (Or.inl ⟨by rfl, ?_⟩) (by assumption) ?_
        rotate_left 1
        · (intro w hSw; (try dsimp only at hSw); go_simp; all_goals with_reducible rfl)
        try simp only [Act.put, List.setIfInBounds_toArray, List.set_cons_zero, List.set_cons_succ]
        refine wpAnyH_take (i := 10) (v := ?_) rfl (by kernel_rfl) (by kernel_rfl) (by kernel_rfl) (fun _ _ _ h => h) (Or.inl ⟨by rfl, ?_⟩) (by assumption) ?_
        rotate_left 1
        · (intro w hSw; (try dsimp only at hSw); go_simp; all_goals with_reducible rfl)
        try simp only [Act.put, List.setIfInBounds_toArray, List.set_cons_zero, List.set_cons_succ]
        refine wpAnyH_take (i := 11) (v := ?_) rfl (by kernel_rfl) (by kernel_rfl) (by kernel_rfl) (fun _ _ _ h => h) (Or.inl ⟨by rfl, ?_⟩) (by assumption) ?_
        rotate_left 1
        · (intro w hSw; (try dsimp only at hSw); go_simp; all_goals with_reducible rfl)
        try simp only [Act.put, List.setIfInBounds_toArray, List.set_cons_zero, List.set_cons_succ]
        refine wpAnyH_ready (rs := [7]) (by kernel_rfl) (by simp) ?_
        refine AllReadyH.cons rfl (fun K hK => ?_) ?_
        rotate_left 1
        · exact AllReadyH.nil
        go_simp
        with_reducible refine (HC.out _).mono ?_
        rintro e wp ⟨he, hbp⟩
        subst he
        subst hbp
        refine hK.out _ _ hHeld (fun hHeld2 => ?_)
        clear hK K
        try simp only [Act.put, List.setIfInBounds_toArray, List.set_cons_zero, List.set_cons_succ]
        refine wpAnyH_take (i := 12) (v := ?_) rfl (by kernel_rfl) (by kernel_rfl) (by kernel_rfl) (fun _ _ _ h => h) (Or.inl ⟨by rfl, ?_⟩) (by assumption) ?_
        rotate_left 1
        · (intro w hSw; (try dsimp only at hSw); go_simp; all_goals with_reducible rfl)
        try simp only [Act.put, List.setIfInBounds_toArray, List.set_cons_zero, List.set_cons_succ]
        refine wpAnyH_take (i := 13) (v := ?_) rfl (by kernel_rfl) (by kernel_rfl) (by kernel_rfl) (fun _ _ _ h => h) (Or.inl ⟨by rfl, ?_⟩) (by assumption) ?_
        rotate_left 1
        · (intro w hSw; (try dsimp only at hSw); go_simp; all_goals with_reducible rfl)
        try simp only [Act.put, List.setIfInBounds_toArray, List.set_cons_zero, List.set_cons_succ]
        refine wpAnyH_done (by kernel_rfl) ?_ _
        show wpList _ _ _ _ _ _
        clear hHeld hHeld2 S0
        have hq0 : (((Y.setCell ⟨w.heap.size + 1 + 1, 0, none⟩ (.int .i64 db)).setCell ⟨w.heap.size + 1 + 1, 1, none⟩ (.int .i64 (ct : Int))).setCell ⟨w.heap.size + 1 + 1, 2, none⟩ (.bool (!mn))).cell? ⟨w.heap.size + 1 + 1, 0, none⟩ = some (.int .i64 db) := (((rQ.set 0 (.int .i64 db)).set 1 (.int .i64 (ct : Int))).set 2 (.bool (!mn))).cell (i := 0) (by omega)
        have hq1 : (((Y.setCell ⟨w.heap.size + 1 + 1, 0, none⟩ (.int .i64 db)).setCell ⟨w.heap.size + 1 + 1, 1, none⟩ (.int .i64 (ct : Int))).setCell ⟨w.heap.size + 1 + 1, 2, none⟩ (.bool (!mn))).cell? ⟨w.heap.size + 1 + 1, 1, none⟩ = some (.int .i64 (ct : Int)) := (((rQ.set 0 (.int .i64 db)).set 1 (.int .i64 (ct : Int))).set 2 (.bool (!mn))).cell (i := 1) (by omega)
        have hq2 : (((Y.setCell ⟨w.heap.size + 1 + 1, 0, none⟩ (.int .i64 db)).setCell ⟨w.heap.size + 1 + 1, 1, none⟩ (.int .i64 (ct : Int))).setCell ⟨w.heap.size + 1 + 1, 2, none⟩ (.bool (!mn))).cell? ⟨w.heap.size + 1 + 1, 2, none⟩ = some (.bool (!mn)) := (((rQ.set 0 (.int .i64 db)).set 1 (.int .i64 (ct : Int))).set 2 (.bool (!mn))).cell (i := 2) (by omega)
        have hZ : Below w.heap.size w (((Y.setCell ⟨w.heap.size + 1 + 1, 0, none⟩ (.int .i64 db)).setCell ⟨w.heap.size + 1 + 1, 1, none⟩ (.int .i64 (ct : Int))).setCell ⟨w.heap.size + 1 + 1, 2, none⟩ (.bool (!mn))) := ((bY.out.setCell (p := ⟨w.heap.size + 1 + 1, 0, none⟩) (by show w.heap.size ≤ w.heap.size + 1 + 1; omega) _).setCell (p := ⟨w.heap.size + 1 + 1, 1, none⟩) (by show w.heap.size ≤ w.heap.size + 1 + 1; omega) _).setCell (p := ⟨w.heap.size + 1 + 1, 2, none⟩) (by show w.heap.size ≤ w.heap.size + 1 + 1; omega) _
        go_wp2
        clear t0 t1 t2 tz0 tz1 tz2
        generalize ((Y.setCell ⟨w.heap.size + 1 + 1, 0, none⟩ (.int .i64 db)).setCell ⟨w.heap.size + 1 + 1, 1, none⟩ (.int .i64 (ct : Int))).setCell ⟨w.heap.size + 1 + 1, 2, none⟩ (.bool (!mn)) = V at *
        refine bodyPost_ret (v := .tuple #[.agg #[.int .i64 db, .int .i64 (ct : Int), .bool (!mn)], .bool true]) (by simp [results, Tryd.results79, go_sem, hq0, hq1, hq2]) rfl ?_
        exact ⟨rfl, hZ.drew⟩
      · have hra : rv = #[.agg #[.int .i64 0, .int .i64 0, .bool false], .bool false] := by rw [← hrv.out, if_neg hpa]
        subst hra
        have n0 : (da != p) = true := by simpa using hpa
        have hq0 : (((Y.setCell ⟨w.heap.size + 1 + 1, 0, none⟩ (.int .i64 0)).setCell ⟨w.heap.size + 1 + 1, 1, none⟩ (.int .i64 0)).setCell ⟨w.heap.size + 1 + 1, 2, none⟩ (.bool false)).cell? ⟨w.heap.size + 1 + 1, 0, none⟩ = some (.int .i64 0) := (((rQ.set 0 (.int .i64 0)).set 1 (.int .i64 0)).set 2 (.bool false)).cell (i := 0) (by omega)
        have hq1 : (((Y.setCell ⟨w.heap.size + 1 + 1, 0, none⟩ (.int .i64 0)).setCell ⟨w.heap.size + 1 + 1, 1, none⟩ (.int .i64 0)).setCell ⟨w.heap.size + 1 + 1, 2, none⟩ (.bool false)).cell? ⟨w.heap.size + 1 + 1, 1, none⟩ = some (.int .i64 0) := (((rQ.set 0 (.int .i64 0)).set 1 (.int .i64 0)).set 2 (.bool false)).cell (i := 1) (by omega)
        have hq2 : (((Y.setCell ⟨w.heap.size + 1 + 1, 0, none⟩ (.int .i64 0)).setCell ⟨w.heap.size + 1 + 1, 1, none⟩ (.int .i64 0)).setCell ⟨w.heap.size + 1 + 1, 2, none⟩ (.bool false)).cell? ⟨w.heap.size + 1 + 1, 2, none⟩ = some (.bool false) := (((rQ.set 0 (.int .i64 0)).set 1 (.int .i64 0)).set 2 (.bool false)).cell (i := 2) (by omega)
        have hZ : Below w.heap.size w (((Y.setCell ⟨w.heap.size + 1 + 1, 0, none⟩ (.int .i64 0)).setCell ⟨w.heap.size + 1 + 1, 1, none⟩ (.int .i64 0)).setCell ⟨w.heap.size + 1 + 1, 2, none⟩ (.bool false)) := ((bY.out.setCell (p := ⟨w.heap.size + 1 + 1, 0, none⟩) (by show w.heap.size ≤ w.heap.size + 1 + 1; omega) _).setCell (p := ⟨w.heap.size + 1 + 1, 1, none⟩) (by show w.heap.size ≤ w.heap.size + 1 + 1; omega) _).setCell (p := ⟨w.heap.size + 1 + 1, 2, none⟩) (by show w.heap.size ≤ w.heap.size + 1 + 1; omega) _
        go_wp2
        clear t0 t1 t2 tz0 tz1 tz2
        generalize ((Y.setCell ⟨w.heap.size + 1 + 1, 0, none⟩ (.int .i64 0)).setCell ⟨w.heap.size + 1 + 1, 1, none⟩ (.int .i64 0)).setCell ⟨w.heap.size + 1 + 1, 2, none⟩ (.bool false) = V at *
        refine bodyPost_ret (v := .tuple #[.agg #[.int .i64 0, .int .i64 0, .bool false], .bool false]) (by simp [results, Tryd.results79, go_sem, hq0, hq1, hq2]) rfl ?_
        exact ⟨rfl, hZ⟩
end Go.Proofs.YtidcedilfhmllaaDoor

/- Contracts of package plate: uniting two classes. -/
namespace Go.Proofs.YtidcedilfhmllaaDoor
open Go.RowKit

/-- integers in a row, which may be longer -/
def RowF (W : World) (b N : Nat) (f : Nat → Int) : Prop := ∀ k, k < N → W.cell? ⟨b, k, none⟩ = some (.int .i64 (f k)) ∧ W.frozen? ⟨b, k, none⟩ = false
theorem RowF.set {W : World} {b N : Nat} {f : Nat → Int} (h : RowF W b N f) (j : Nat) (z : Int) : RowF (W.setCell ⟨b, j, none⟩ (.int .i64 z)) b N (fun k => if k = j then z else f k) := fun k hk => by
  obtain ⟨h1, h2⟩ := h k hk
  by_cases e : k = j
  · subst e
    refine ⟨?_, ?_⟩
    · simp [go_sem, h1]
    · rw [← h2]; simp [go_sem]
  · refine ⟨?_, ?_⟩
    · simp [go_sem, e, h1]
    · rw [← h2]; simp [go_sem]
theorem RowF.other {W : World} {b N : Nat} {f : Nat → Int} (h : RowF W b N f) (p : Addr) (v : Value) (hp : p.block ≠ b) : RowF (W.setCell p v) b N f := fun k hk => by
  obtain ⟨h1, h2⟩ := h k hk
  have e : (⟨b, k, none⟩ : Addr) ≠ p := fun e => hp (by rw [← e])
  refine ⟨?_, ?_⟩
  · rw [← h1]; simp [go_sem, e, Ne.symm e, hp, Ne.symm hp]
  · rw [← h2]; simp [go_sem]
theorem RowF.congr {W : World} {b N : Nat} {f g : Nat → Int} (h : RowF W b N f) (hg : ∀ k, k < N → f k = g k) : RowF W b N g := fun k hk => by rw [← hg k hk]; exact h k hk

/-- the two lists of classes -/
structure UN (W : World) (b3 b4 lb wb N cl cw : Nat) (lf : Nat → Nat) (wf : Nat → Int) : Prop where
  c3 : W.cell? ⟨b3, 0, none⟩ = some (.slice (some ⟨lb, 0, none⟩) N cl)
  c4 : W.cell? ⟨b4, 0, none⟩ = some (.slice (some ⟨wb, 0, none⟩) N cw)
  l : RowF W lb N fun k => (lf k : Int)
  w : RowF W wb N wf
/-- unite -/
structure NE (b3 b4 lb wb : Nat) : Prop where
  n1 : lb ≠ wb
  n2 : b3 ≠ lb
  n3 : b3 ≠ wb
  n4 : b4 ≠ lb
  n5 : b4 ≠ wb
theorem UN.setL {W : World} {b3 b4 lb wb N cl cw : Nat} {lf : Nat → Nat} {wf : Nat → Int} (h : UN W b3 b4 lb wb N cl cw lf wf) (ne : NE b3 b4 lb wb) (k z : Nat) : UN (W.setCell ⟨lb, k, none⟩ (.int .i64 (z : Int))) b3 b4 lb wb N cl cw (fun c => if c = k then z else lf c) wf :=
  ⟨by rw [← h.c3]; simp [go_sem, ne.n2, Ne.symm ne.n2], by rw [← h.c4]; simp [go_sem, ne.n4, Ne.symm ne.n4], (h.l.set k z).congr (fun j _ => by by_cases e : j = k <;> simp [e]), h.w.other ⟨lb, k, none⟩ _ ne.n1⟩
theorem UN.setW {W : World} {b3 b4 lb wb N cl cw : Nat} {lf : Nat → Nat} {wf : Nat → Int} (h : UN W b3 b4 lb wb N cl cw lf wf) (ne : NE b3 b4 lb wb) (k : Nat) (z : Int) : UN (W.setCell ⟨wb, k, none⟩ (.int .i64 z)) b3 b4 lb wb N cl cw lf (fun c => if c = k then z else wf c) :=
  ⟨by rw [← h.c3]; simp [go_sem, ne.n3, Ne.symm ne.n3], by rw [← h.c4]; simp [go_sem, ne.n5, Ne.symm ne.n5], h.l.other ⟨wb, k, none⟩ _ (Ne.symm ne.n1), h.w.set k z⟩
theorem UN.congr {W : World} {b3 b4 lb wb N cl cw : Nat} {lf lf' : Nat → Nat} {wf wf' : Nat → Int} (h : UN W b3 b4 lb wb N cl cw lf wf) (h1 : ∀ k, k < N → lf k = lf' k) (h2 : ∀ k, k < N → wf k = wf' k) : UN W b3 b4 lb wb N cl cw lf' wf' :=
  ⟨h.c3, h.c4, h.l.congr (fun k hk => by rw [h1 k hk]), h.w.congr h2⟩
theorem UN.drew {W : World} {b3 b4 lb wb N cl cw : Nat} {lf : Nat → Nat} {wf : Nat → Int} (h : UN W b3 b4 lb wb N cl cw lf wf) : UN W.drew b3 b4 lb wb N cl cw lf wf := ⟨h.c3, h.c4, h.l, h.w⟩
theorem tri_bd {a : Int} (h : a = 1 ∨ a = -1 ∨ a = 0) : -1 ≤ a ∧ a ≤ 1 := by omega
theorem wrap_bd {a : Int} (h : -1 ≤ a ∧ a ≤ 1) : IntKind.i64.wrap a = a := by rw [IntWalk.i64_left]; exact IntWalk.wrap64_in _ (by omega)

set_option maxRecDepth 100000 in
set_option maxHeartbeats 8000000 in
theorem unite_any (b3 b4 lb wb N cl cw x y : Nat) (e : Bool) (lf : Nat → Nat) (wf : Nat → Int) (hx : x < N) (hy : y < N) (hN : N ≤ 36) (hl : Hid (∀ k, k < N → lf k < N)) (hw : Hid (∀ k, k < N → wf k = 1 ∨ wf k = -1 ∨ wf k = 0)) (ne : NE b3 b4 lb wb) (w : World) (hU : Hid (UN w b3 b4 lb wb N cl cw lf wf)) :
    Calls Tryd.prog 78 #[.int .i64 (x : Int), .int .i64 (y : Int), .int .i64 (Pl.sg e), .pointer (some ⟨b3, 0, none⟩), .pointer (some ⟨b4, 0, none⟩)] w fun e' w' => e' = .returned (.tuple #[]) ∧ Hid (UN w' b3 b4 lb wb N cl cw (Pl.unL lf x y) (Pl.unW lf wf x y e)) ∧ Hid (But (fun g => g = lb ∨ g = wb) w w') := by
  obtain ⟨ux, hux⟩ : ∃ u, lf x = u := ⟨_, rfl⟩
  obtain ⟨uy, huy⟩ : ∃ u, lf y = u := ⟨_, rfl⟩
  obtain ⟨vx, hvx⟩ : ∃ u, wf x = u := ⟨_, rfl⟩
  obtain ⟨vy, hvy⟩ : ∃ u, wf y = u := ⟨_, rfl⟩
  obtain ⟨se, hse⟩ : ∃ u, Pl.sg e = u := ⟨_, rfl⟩
  have c3 := hU.out.c3
  have c4 := hU.out.c4
  have cx := (hU.out.l x hx).1
  have cy := (hU.out.l y hy).1
  have dx := (hU.out.w x hx).1
  have dy := (hU.out.w y hy).1
  simp only at cx cy
  rw [hux] at cx
  rw [huy] at cy
  rw [hvx] at dx
  rw [hvy] at dy
  have kx : ux < N := by rw [← hux]; exact hl.out x hx
  have ky : uy < N := by rw [← huy]; exact hl.out y hy
  have jx : vx = 1 ∨ vx = -1 ∨ vx = 0 := by rw [← hvx]; exact hw.out x hx
  have jy : vy = 1 ∨ vy = -1 ∨ vy = 0 := by rw [← hvy]; exact hw.out y hy
  have je : se = 1 ∨ se = -1 ∨ se = 0 := by rw [← hse]; rcases Pl.sg_cases e with h | h <;> simp [h]
  have m1 := wrap_bd (tri_bd (Pl.tri_mul jx je))
  have m2 := wrap_bd (tri_bd (Pl.tri_mul (Pl.tri_mul jx je) jy))
  have hst : Pl.stay lf x y = min ux uy := by unfold Pl.stay; rw [hux, huy]
  have hgo : Pl.goes lf x y = max ux uy := by unfold Pl.goes; rw [hux, huy]
  have hac : Pl.across lf wf x y e = if min ux uy = max ux uy ∧ vx * se * vy = -1 then 0 else vx * se * vy := by unfold Pl.across; rw [hst, hgo, hvx, hvy, hse]
  rw [hse]
  have i1 : (0 : Int) ≤ (x : Int) := by omega
  have i2 : (x : Int) < (N : Int) := by omega
  have i3 : (0 : Int) ≤ (y : Int) := by omega
  have i4 : (y : Int) < (N : Int) := by omega
  have hmn : (if uy < ux then (uy : Int) else (ux : Int)) = ((min ux uy : Nat) : Int) := by split <;> omega
  have hmx : (if ux < uy then (uy : Int) else (ux : Int)) = ((max ux uy : Nat) : Int) := by split <;> omega
  obtain ⟨st, hst0⟩ : ∃ st, min ux uy = st := ⟨_, rfl⟩
  obtain ⟨gs, hgs0⟩ : ∃ gs, max ux uy = gs := ⟨_, rfl⟩
  rw [hst0] at hst hac hmn
  rw [hgs0] at hgo hac hmx
  obtain ⟨P, hP⟩ : ∃ P, vx * se * vy = P := ⟨_, rfl⟩
  have jP : P = 1 ∨ P = -1 ∨ P = 0 := by rw [← hP]; exact Pl.tri_mul (Pl.tri_mul jx je) jy
  rw [hP] at hac
  have m3 : IntKind.i64.wrap (IntKind.i64.wrap (vx * se) * vy) = P := by rw [m1, m2, hP]
  replace hst := Lib.hid hst
  replace hgo := Lib.hid hgo
  replace hac := Lib.hid hac
  replace hP := Lib.hid hP
  replace jP := Lib.hid jP
  clear hux huy hvx hvy hse jx jy je
  go_enter Tryd.func78, Tryd.ntmps78
  go_upto_region 0 with fail
  have S0 : w.drew.cell? ⟨b3, 0, none⟩ = some (.slice (some ⟨lb, 0, none⟩) N cl) ∧ w.drew.cell? ⟨lb, x, none⟩ = some (.int .i64 (ux : Int)) ∧ w.drew.cell? ⟨lb, y, none⟩ = some (.int .i64 (uy : Int)) := ⟨c3, cx, cy⟩
  refine region_head_held 19 (fun w' => w'.cell? ⟨b3, 0, none⟩ = some (.slice (some ⟨lb, 0, none⟩) N cl) ∧ w'.cell? ⟨lb, x, none⟩ = some (.int .i64 (ux : Int)) ∧ w'.cell? ⟨lb, y, none⟩ = some (.int .i64 (uy : Int))) (by kernel_rfl) (by kernel_rfl) S0 (fun hHeld => ?_)
  simp only [List.take_succ_cons, List.take_zero, List.drop_succ_cons, List.drop_zero]
  refine wpAnyH_take (i := 0) (v := ?_) rfl (by kernel_rfl) (by kernel_rfl) (by kernel_rfl) (fun _ _ _ h => h) (Or.inl ⟨by rfl, ?_⟩) (by assumption) ?_
  rotate_left 1
  · (intro w hSw; (try dsimp only at hSw); go_simp; all_goals with_reducible rfl)
  try simp only [Act.put, List.setIfInBounds_toArray, List.set_cons_zero, List.set_cons_succ]
  refine wpAnyH_take (i := 1) (v := ?_) rfl (by kernel_rfl) (by kernel_rfl) (by kernel_rfl) (fun _ _ _ h => h) (Or.inl ⟨by rfl, ?_⟩) (by assumption) ?_
  rotate_left 1
  · (intro w hSw; (try dsimp only at hSw); go_simp; all_goals with_reducible rfl)
  try simp only [Act.put, List.setIfInBounds_toArray, List.set_cons_zero, List.set_cons_succ]
  refine wpAnyH_take (i := 2) (v := ?_) rfl (by kernel_rfl) (by kernel_rfl) (by kernel_rfl) (fun _ _ _ h => h) (Or.inl ⟨by rfl, ?_⟩) (by assumption) ?_
  rotate_left 1
  · (intro w hSw; (try dsimp only at hSw); go_simp; all_goals with_reducible rfl)
  try simp only [Act.put, List.setIfInBounds_toArray, List.set_cons_zero, List.set_cons_succ]
  refine wpAnyH_take (i := 3) (v := ?_) rfl (by kernel_rfl) (by kernel_rfl) (by kernel_rfl) (fun _ _ _ h => h) (Or.inl ⟨by rfl, ?_⟩) (by assumption) ?_
  rotate_left 1
  · (intro w hSw; (try dsimp only at hSw); go_simp; all_goals with_reducible rfl)
  try simp only [Act.put, List.setIfInBounds_toArray, List.set_cons_zero, List.set_cons_succ]
  refine wpAnyH_take (i := 4) (v := ?_) rfl (by kernel_rfl) (by kernel_rfl) (by kernel_rfl) (fun _ _ _ h => h) (Or.inl ⟨by rfl, ?_⟩) (by assumption) ?_
  rotate_left 1
  · (intro w hSw; (try dsimp only at hSw); go_simp; all_goals with_reducible rfl)
  try simp only [Act.put, List.setIfInBounds_toArray, List.set_cons_zero, List.set_cons_succ]
  refine wpAnyH_take (i := 5) (v := ?_) rfl (by kernel_rfl) (by kernel_rfl) (by kernel_rfl) (fun _ _ _ h => h) (Or.inl ⟨by rfl, ?_⟩) (by assumption) ?_
  rotate_left 1
  · (intro w hSw; (try dsimp only at hSw); go_simp; all_goals with_reducible rfl)
  try simp only [Act.put, List.setIfInBounds_toArray, List.set_cons_zero, List.set_cons_succ]
  refine wpAnyH_take (i := 6) (v := ?_) rfl (by kernel_rfl) (by kernel_rfl) (by kernel_rfl) (fun _ _ _ h => h) (Or.inl ⟨by rfl, ?_⟩) (by assumption) ?_
  rotate_left 1
  · (intro w hSw; (try dsimp only at hSw); go_simp; all_goals with_reducible rfl)
  try simp only [Act.put, List.setIfInBounds_toArray, List.set_cons_zero, List.set_cons_succ]
  refine wpAnyH_take (i := 7) (v := ?_) rfl (by kernel_rfl) (by kernel_rfl) (by kernel_rfl) (fun _ _ _ h => h) (Or.inl ⟨by rfl, ?_⟩) (by assumption) ?_
  rotate_left 1
  · (intro w hSw; (try dsimp only at hSw); go_simp; all_goals with_reducible rfl)
  try simp only [Act.put, List.setIfInBounds_toArray, List.set_cons_zero, List.set_cons_succ]
  refine wpAnyH_take (i := 8) (v := ?_) rfl (by kernel_rfl) (by kernel_rfl) (by kernel_rfl) (fun _ _ _ h => h) (Or.inl ⟨by rfl, ?_⟩) (by assumption) ?_
  rotate_left 1
  · (intro w hSw; (try dsimp only at hSw); go_simp; all_goals with_reducible rfl)
  try simp only [Act.put, List.setIfInBounds_toArray, List.set_cons_zero, List.set_cons_succ]
  refine wpAnyH_take (i := 9) (v := ?_) rfl (by kernel_rfl) (by kernel_rfl) (by kernel_rfl) (fun _ _ _ h => h) (Or.inl ⟨by rfl, ?_⟩) (by assumption) ?_
  rotate_left 1
  · (intro w hSw; (try dsimp only at hSw); go_simp; all_goals with_reducible rfl)
  try simp only [Act.put, List.setIfInBounds_toArray, List.set_cons_zero, List.set_cons_succ]
  refine wpAnyH_take (i := 10) (v := ?_) rfl (by kernel_rfl) (by kernel_rfl) (by kernel_rfl) (fun _ _ _ h => h) (Or.inl ⟨by rfl, ?_⟩) (by assumption) ?_
  rotate_left 1
  · (intro w hSw; (try dsimp only at hSw); go_simp; all_goals with_reducible rfl)
  try simp only [Act.put, List.setIfInBounds_toArray, List.set_cons_zero, List.set_cons_succ]
  refine wpAnyH_take (i := 11) (v := ?_) rfl (by kernel_rfl) (by kernel_rfl) (by kernel_rfl) (fun _ _ _ h => h) (Or.inl ⟨by rfl, ?_⟩) (by assumption) ?_
  rotate_left 1
  · (intro w hSw; (try dsimp only at hSw); go_simp; all_goals with_reducible rfl)
  try simp only [Act.put, List.setIfInBounds_toArray, List.set_cons_zero, List.set_cons_succ]
  refine wpAnyH_take (i := 12) (v := ?_) rfl (by kernel_rfl) (by kernel_rfl) (by kernel_rfl) (fun _ _ _ h => h) (Or.inl ⟨by rfl, ?_⟩) (by assumption) ?_
  rotate_left 1
  · (intro w hSw; (try dsimp only at hSw); go_simp; all_goals with_reducible rfl)
  try simp only [Act.put, List.setIfInBounds_toArray, List.set_cons_zero, List.set_cons_succ]
  refine wpAnyH_take (i := 13) (v := ?_) rfl (by kernel_rfl) (by kernel_rfl) (by kernel_rfl) (fun _ _ _ h => h) (Or.inl ⟨by rfl, ?_⟩) (by assumption) ?_
  rotate_left 1
  · (intro w hSw; (try dsimp only at hSw); go_simp; all_goals with_reducible rfl)
  try simp only [Act.put, List.setIfInBounds_toArray, List.set_cons_zero, List.set_cons_succ]
  refine wpAnyH_take (i := 14) (v := ?_) rfl (by kernel_rfl) (by kernel_rfl) (by kernel_rfl) (fun _ _ _ h => h) (Or.inl ⟨by rfl, ?_⟩) (by assumption) ?_
  rotate_left 1
  · (intro w hSw; (try dsimp only at hSw); go_simp; all_goals with_reducible rfl)
  try simp only [Act.put, List.setIfInBounds_toArray, List.set_cons_zero, List.set_cons_succ]
  refine wpAnyH_take (i := 15) (v := ?_) rfl (by kernel_rfl) (by kernel_rfl) (by kernel_rfl) (fun _ _ _ h => h) (Or.inl ⟨by rfl, ?_⟩) (by assumption) ?_
  rotate_left 1
  · (intro w hSw; (try dsimp only at hSw); go_simp; all_goals with_reducible rfl)
  try simp only [Act.put, List.setIfInBounds_toArray, List.set_cons_zero, List.set_cons_succ]
  refine wpAnyH_take (i := 16) (v := ?_) rfl (by kernel_rfl) (by kernel_rfl) (by kernel_rfl) (fun _ _ _ h => h) (Or.inl ⟨by rfl, ?_⟩) (by assumption) ?_
  rotate_left 1
  · (intro w hSw; (try dsimp only at hSw); go_simp; all_goals with_reducible rfl)
  try simp only [Act.put, List.setIfInBounds_toArray, List.set_cons_zero, List.set_cons_succ]
  refine wpAnyH_take (i := 17) (v := ?_) rfl (by kernel_rfl) (by kernel_rfl) (by kernel_rfl) (fun _ _ _ h => h) (Or.inl ⟨by rfl, ?_⟩) (by assumption) ?_
  rotate_left 1
  · (intro w hSw; (try dsimp only at hSw); go_simp; all_goals with_reducible rfl)
  try simp only [Act.put, List.setIfInBounds_toArray, List.set_cons_zero, List.set_cons_succ]
  refine wpAnyH_take (i := 18) (v := ?_) rfl (by kernel_rfl) (by kernel_rfl) (by kernel_rfl) (fun _ _ _ h => h) (Or.inl ⟨by rfl, ?_⟩) (by assumption) ?_
  rotate_left 1
  · (intro w hSw; (try dsimp only at hSw); go_simp; all_goals with_reducible rfl)
  try simp only [Act.put, List.setIfInBounds_toArray, List.set_cons_zero, List.set_cons_succ]
  refine wpAnyH_done (by kernel_rfl) ?_ _
  show wpList _ _ _ _ _ _
  clear hHeld S0
  go_upto_region 1 with fail
  have c4' : w.drew.cell? ⟨b4, 0, none⟩ = some (.slice (some ⟨wb, 0, none⟩) N cw) := c4
  have dx' : w.drew.cell? ⟨wb, x, none⟩ = some (.int .i64 vx) := dx
  have dy' : w.drew.cell? ⟨wb, y, none⟩ = some (.int .i64 vy) := dy
  have hU' := Lib.hid hU.out.drew
  have hB' : Hid (But (fun g => g = lb ∨ g = wb) w w.drew) := Lib.hid (But.of_below (Below.refl _ _).drew)
  clear hst0 hgs0 hmn hmx c3 c4 cx cy dx dy hU kx ky
  generalize w.drew = Y at *
  have FV := Lib.hid fun (nq : Nat) => (UN.mk hU'.out.c3 hU'.out.c4 hU'.out.l hU'.out.w : UN (Y.drewN nq) b3 b4 lb wb N cl cw lf wf)
  have FC := Lib.hid fun (nq : Nat) => (hB'.out.trans (.of_below (drewN_below (w := Y) nq)) : But (fun g => g = lb ∨ g = wb) w (Y.drewN nq))
  clear hU' hB'
  go_upto_region 1 with fail
  have S1 : Y.drew.cell? ⟨b4, 0, none⟩ = some (.slice (some ⟨wb, 0, none⟩) N cw) ∧ Y.drew.cell? ⟨wb, x, none⟩ = some (.int .i64 vx) ∧ Y.drew.cell? ⟨wb, y, none⟩ = some (.int .i64 vy) := ⟨c4', dx', dy'⟩
  refine region_head_held 11 (fun w' => w'.cell? ⟨b4, 0, none⟩ = some (.slice (some ⟨wb, 0, none⟩) N cw) ∧ w'.cell? ⟨wb, x, none⟩ = some (.int .i64 vx) ∧ w'.cell? ⟨wb, y, none⟩ = some (.int .i64 vy)) (by kernel_rfl) (by kernel_rfl) S1 (fun hHeld => ?_)
  simp only [List.take_succ_cons, List.take_zero, List.drop_succ_cons, List.drop_zero]
  refine wpAnyH_take (i := 0) (v := ?_) rfl (by kernel_rfl) (by kernel_rfl) (by kernel_rfl) (fun _ _ _ h => h) (Or.inl ⟨by rfl, ?_⟩) (by assumption) ?_
  rotate_left 1
  · (intro w hSw; (try dsimp only at hSw); go_simp; all_goals with_reducible rfl)
  try simp only [Act.put, List.setIfInBounds_toArray, List.set_cons_zero, List.set_cons_succ]
  refine wpAnyH_take (i := 1) (v := ?_) rfl (by kernel_rfl) (by kernel_rfl) (by kernel_rfl) (fun _ _ _ h => h) (Or.inl ⟨by rfl, ?_⟩) (by assumption) ?_
  rotate_left 1
  · (intro w hSw; (try dsimp only at hSw); go_simp; all_goals with_reducible rfl)
  try simp only [Act.put, List.setIfInBounds_toArray, List.set_cons_zero, List.set_cons_succ]
  refine wpAnyH_take (i := 2) (v := ?_) rfl (by kernel_rfl) (by kernel_rfl) (by kernel_rfl) (fun _ _ _ h => h) (Or.inl ⟨by rfl, ?_⟩) (by assumption) ?_
  rotate_left 1
  · (intro w hSw; (try dsimp only at hSw); go_simp; all_goals with_reducible rfl)
  try simp only [Act.put, List.setIfInBounds_toArray, List.set_cons_zero, List.set_cons_succ]
  refine wpAnyH_take (i := 3) (v := ?_) rfl (by kernel_rfl) (by kernel_rfl) (by kernel_rfl) (fun _ _ _ h => h) (Or.inl ⟨by rfl, ?_⟩) (by assumption) ?_
  rotate_left 1
  · (intro w hSw; (try dsimp only at hSw); go_simp; all_goals with_reducible rfl)
  try simp only [Act.put, List.setIfInBounds_toArray, List.set_cons_zero, List.set_cons_succ]
  refine wpAnyH_take (i := 4) (v := ?_) rfl (by kernel_rfl) (by kernel_rfl) (by kernel_rfl) (fun _ _ _ h => h) (Or.inl ⟨by rfl, ?_⟩) (by assumption) ?_
  rotate_left 1
  · (intro w hSw; (try dsimp only at hSw); go_simp; all_goals with_reducible rfl)
  try simp only [Act.put, List.setIfInBounds_toArray, List.set_cons_zero, List.set_cons_succ]
  refine wpAnyH_take (i := 5) (v := ?_) rfl (by kernel_rfl) (by kernel_rfl) (by kernel_rfl) (fun _ _ _ h => h) (Or.inl ⟨by rfl, ?_⟩) (by assumption) ?_
  rotate_left 1
  · (intro w hSw; (try dsimp only at hSw); go_simp; all_goals with_reducible rfl)
  try simp only [Act.put, List.setIfInBounds_toArray, List.set_cons_zero, List.set_cons_succ]
  refine wpAnyH_take (i := 6) (v := ?_) rfl (by kernel_rfl) (by kernel_rfl) (by kernel_rfl) (fun _ _ _ h => h) (Or.inl ⟨by rfl, ?_⟩) (by assumption) ?_
  rotate_left 1
  · (intro w hSw; (try dsimp only at hSw); go_simp; all_goals with_reducible rfl)
  try simp only [Act.put, List.setIfInBounds_toArray, List.set_cons_zero, List.set_cons_succ]
  refine wpAnyH_take (i := 7) (v := ?_) rfl (by kernel_rfl) (by kernel_rfl) (by kernel_rfl) (fun _ _ _ h => h) (Or.inl ⟨by rfl, ?_⟩) (by assumption) ?_
  rotate_left 1
  · (intro w hSw; (try dsimp only at hSw); go_simp; all_goals with_reducible rfl)
  try simp only [Act.put, List.setIfInBounds_toArray, List.set_cons_zero, List.set_cons_succ]
  refine wpAnyH_take (i := 8) (v := ?_) rfl (by kernel_rfl) (by kernel_rfl) (by kernel_rfl) (fun _ _ _ h => h) (Or.inl ⟨by rfl, ?_⟩) (by assumption) ?_
  rotate_left 1
  · (intro w hSw; (try dsimp only at hSw); go_simp; all_goals with_reducible rfl)
  try simp only [Act.put, List.setIfInBounds_toArray, List.set_cons_zero, List.set_cons_succ]
  refine wpAnyH_take (i := 9) (v := ?_) rfl (by kernel_rfl) (by kernel_rfl) (by kernel_rfl) (fun _ _ _ h => h) (Or.inl ⟨by rfl, ?_⟩) (by assumption) ?_
  rotate_left 1
  · (intro w hSw; (try dsimp only at hSw); go_simp; all_goals with_reducible rfl)
  try simp only [Act.put, List.setIfInBounds_toArray, List.set_cons_zero, List.set_cons_succ]
  refine wpAnyH_take (i := 10) (v := ?_) rfl (by kernel_rfl) (by kernel_rfl) (by kernel_rfl) (fun _ _ _ h => h) (Or.inl ⟨by rfl, ?_⟩) (by assumption) ?_
  rotate_left 1
  · (intro w hSw; (try dsimp only at hSw); go_simp; all_goals with_reducible rfl)
  try simp only [Act.put, List.setIfInBounds_toArray, List.set_cons_zero, List.set_cons_succ]
  refine wpAnyH_done (by kernel_rfl) ?_ _
  show wpList _ _ _ _ _ _
  clear hHeld S1
  clear c4' dx' dy'
  have hV0 := FV.out 1
  have hC0 := FC.out 1
  change UN Y.drew b3 b4 lb wb N cl cw lf wf at hV0
  change But (fun g => g = lb ∨ g = wb) w Y.drew at hC0
  have q3' : Y.drew.cell? ⟨b3, 0, none⟩ = some (.slice (some ⟨lb, 0, none⟩) N cl) := hV0.c3
  have hV := Lib.hid hV0
  have hC := Lib.hid hC0
  rw [hP.out]
  clear hV0 hC0 FV FC m1 m2 m3 hP
  generalize Y.drew = Z at *
  by_cases hz : st = gs ∧ P = -1
  · obtain ⟨hz1, hz2⟩ := hz
    have hacv : Hid (Pl.across lf wf x y e = 0) := Lib.hid (by rw [hac.out, if_pos ⟨hz1, hz2⟩])
    have z1 : ((st : Int) == (gs : Int)) = true := by rw [hz1]; simp
    have z2 : (P == -1) = true := by rw [hz2]; rfl
    clear hac hz1 hz2
    go_wp2
    go_loopw [51] (fun iv wr => ∃ k : Nat, k ≤ N ∧ iv = .int .i64 (k : Int) ∧ Hid (UN wr b3 b4 lb wb N cl cw (fun c => if c < k then Pl.unL lf x y c else lf c) (fun c => if c < k then Pl.unW lf wf x y e c else wf c)) ∧ Hid (But (fun g => g = lb ∨ g = wb) w wr)) (fun iv _ => N - (RowKit.intOf iv).toNat)
    case atStart => exact ⟨0, Nat.zero_le _, rfl, Lib.hid (hV.out.congr (fun k _ => by simp) (fun k _ => by simp)), hC⟩
    case round =>
      clear hV hC
      obtain ⟨k, hk, rfl, hV, hC⟩ := hrel
      by_cases hlt : k < N
      · have i5 : (k : Int) < (N : Int) := by omega
        have i6 : (0 : Int) ≤ (k : Int) := by omega
        have q3 := hV.out.c3
        have q4 := hV.out.c4
        obtain ⟨ql, qlf⟩ := hV.out.l k hlt
        obtain ⟨qw, qwf⟩ := hV.out.w k hlt
        simp only [Nat.lt_irrefl, if_false] at ql qw
        have eL : Hid (Pl.unL lf x y k = if lf k = gs then st else lf k) := Lib.hid (by unfold Pl.unL; rw [hgo.out, hst.out])
        have eW : Hid (Pl.unW lf wf x y e k = if lf k = gs then wf k * 0 else if lf k = st then wf k * (0 * 0) else wf k) := Lib.hid (by unfold Pl.unW; rw [hgo.out, hst.out, hacv.out])
        have jk := hw.out k hlt
        obtain ⟨uk, huk⟩ : ∃ u, lf k = u := ⟨_, rfl⟩
        obtain ⟨vk, hvk⟩ : ∃ v, wf k = v := ⟨_, rfl⟩
        rw [huk] at ql eL eW
        rw [hvk] at qw eW jk
        have jac : (0 : Int) = 1 ∨ (0 : Int) = -1 ∨ (0 : Int) = 0 := by omega
        have w1 := wrap_bd (tri_bd (Pl.tri_mul jk jac))
        have w2 := wrap_bd (tri_bd (Pl.tri_mul jac jac))
        have w3 := wrap_bd (tri_bd (Pl.tri_mul jk (Pl.tri_mul jac jac)))
        clear jac jk
        by_cases hg : uk = gs
        · subst hg
          rw [if_pos rfl] at eL eW
          have hn := Lib.hid (((hV.out.setL ne k st).setW ne k 0).congr (lf' := fun c => if c < k + 1 then Pl.unL lf x y c else lf c) (wf' := fun c => if c < k + 1 then Pl.unW lf wf x y e c else wf c)
            (fun c _ => by
              by_cases e1 : c = k
              · subst e1; simp [eL.out]
              · by_cases e2 : c < k
                · simp [e1, e2, show c < k + 1 by omega]
                · simp [e1, e2, show ¬ c < k + 1 by omega])
            (fun c _ => by
              by_cases e1 : c = k
              · subst e1; simp [eW.out]
              · by_cases e2 : c < k
                · simp [e1, e2, show c < k + 1 by omega]
                · simp [e1, e2, show ¬ c < k + 1 by omega]))
          have hD := Lib.hid ((hC.out.setCell (p := ⟨lb, k, none⟩) (.inr (.inl rfl)) (.int .i64 (st : Int))).setCell (p := ⟨wb, k, none⟩) (.inr (.inr rfl)) (.int .i64 0))
          have z4 : (wr.setCell ⟨lb, k, none⟩ (.int .i64 (st : Int))).cell? ⟨b4, 0, none⟩ = some (.slice (some ⟨wb, 0, none⟩) N cw) := (hV.out.setL ne k st).c4
          have zw : (wr.setCell ⟨lb, k, none⟩ (.int .i64 (st : Int))).cell? ⟨wb, k, none⟩ = some (.int .i64 vk) := by rw [← hvk]; have h := ((hV.out.setL ne k st).w k hlt).1; simpa using h
          have zf : (wr.setCell ⟨lb, k, none⟩ (.int .i64 (st : Int))).frozen? ⟨wb, k, none⟩ = false := ((hV.out.setL ne k st).w k hlt).2
          clear hV hC eL eW huk hvk
          go_wp2
          go_roundw
          case rel => exact ⟨k + 1, by omega, by go_num, hn, hD⟩
          case measure => first | (simp [RowKit.intOf]; done) | (simp [RowKit.intOf]; omega) | omega
        · have ng : ((uk : Int) == (gs : Int)) = false := by rw [beq_eq_false_iff_ne]; omega
          rw [if_neg hg] at eL eW
          by_cases hs : uk = st
          · subst hs
            rw [if_pos rfl] at eW
            have hn := Lib.hid ((hV.out.setW ne k 0).congr (lf' := fun c => if c < k + 1 then Pl.unL lf x y c else lf c) (wf' := fun c => if c < k + 1 then Pl.unW lf wf x y e c else wf c)
              (fun c _ => by
                by_cases e1 : c = k
                · subst e1; simp [eL.out, huk]
                · by_cases e2 : c < k
                  · simp [e2, show c < k + 1 by omega]
                  · simp [e2, show ¬ c < k + 1 by omega])
              (fun c _ => by
                by_cases e1 : c = k
                · subst e1; simp [eW.out]
                · by_cases e2 : c < k
                  · simp [e1, e2, show c < k + 1 by omega]
                  · simp [e1, e2, show ¬ c < k + 1 by omega]))
            have hD := Lib.hid (hC.out.setCell (p := ⟨wb, k, none⟩) (.inr (.inr rfl)) (.int .i64 0))
            clear hV hC eL eW huk hvk
            go_wp2
            go_roundw
            case rel => exact ⟨k + 1, by omega, by go_num, hn, hD⟩
            case measure => first | (simp [RowKit.intOf]; done) | (simp [RowKit.intOf]; omega) | omega
          · have ns : ((uk : Int) == (st : Int)) = false := by rw [beq_eq_false_iff_ne]; omega
            rw [if_neg hs] at eW
            have hn := Lib.hid (hV.out.congr (lf' := fun c => if c < k + 1 then Pl.unL lf x y c else lf c) (wf' := fun c => if c < k + 1 then Pl.unW lf wf x y e c else wf c)
              (fun c _ => by
                by_cases e1 : c = k
                · subst e1; simp [eL.out, huk]
                · by_cases e2 : c < k
                  · simp [e2, show c < k + 1 by omega]
                  · simp [e2, show ¬ c < k + 1 by omega])
              (fun c _ => by
                by_cases e1 : c = k
                · subst e1; simp [eW.out, hvk]
                · by_cases e2 : c < k
                  · simp [e2, show c < k + 1 by omega]
                  · simp [e2, show ¬ c < k + 1 by omega]))
            clear hV eL eW huk hvk
            go_wp2
            go_roundw
            case rel => exact ⟨k + 1, by omega, by go_num, hn, hC⟩
            case measure => first | (simp [RowKit.intOf]; done) | (simp [RowKit.intOf]; omega) | omega
      · obtain rfl : k = N := by omega
        have i5 : ¬ (k : Int) < (k : Int) := by omega
        have hn := Lib.hid (hV.out.congr (lf' := Pl.unL lf x y) (wf' := Pl.unW lf wf x y e) (fun c hc => by simp [hc]) (fun c hc => by simp [hc]))
        clear hV
        go_wp2
        refine bodyPost_end (v := .tuple #[]) (by simp [results, Tryd.results78, go_sem]) rfl ?_
        exact ⟨rfl, hn, hC⟩
  · have hacv : Hid (Pl.across lf wf x y e = P) := Lib.hid (by rw [hac.out, if_neg hz])
    clear hac
    have hz3 : ¬ st = gs ∨ (st = gs ∧ ¬ P = -1) := by
      by_cases h : st = gs
      · exact .inr ⟨h, fun h2 => hz ⟨h, h2⟩⟩
      · exact .inl h
    clear hz
    rcases hz3 with z1 | ⟨z1, z2⟩
    · have z3 : ((st : Int) == (gs : Int)) = false := by rw [beq_eq_false_iff_ne]; omega
      go_wp2
      go_loopw [51] (fun iv wr => ∃ k : Nat, k ≤ N ∧ iv = .int .i64 (k : Int) ∧ Hid (UN wr b3 b4 lb wb N cl cw (fun c => if c < k then Pl.unL lf x y c else lf c) (fun c => if c < k then Pl.unW lf wf x y e c else wf c)) ∧ Hid (But (fun g => g = lb ∨ g = wb) w wr)) (fun iv _ => N - (RowKit.intOf iv).toNat)
      case atStart => exact ⟨0, Nat.zero_le _, rfl, Lib.hid (hV.out.congr (fun k _ => by simp) (fun k _ => by simp)), hC⟩
      case round =>
        clear hV hC
        obtain ⟨k, hk, rfl, hV, hC⟩ := hrel
        by_cases hlt : k < N
        · have i5 : (k : Int) < (N : Int) := by omega
          have i6 : (0 : Int) ≤ (k : Int) := by omega
          have q3 := hV.out.c3
          have q4 := hV.out.c4
          obtain ⟨ql, qlf⟩ := hV.out.l k hlt
          obtain ⟨qw, qwf⟩ := hV.out.w k hlt
          simp only [Nat.lt_irrefl, if_false] at ql qw
          have eL : Hid (Pl.unL lf x y k = if lf k = gs then st else lf k) := Lib.hid (by unfold Pl.unL; rw [hgo.out, hst.out])
          have eW : Hid (Pl.unW lf wf x y e k = if lf k = gs then wf k * P else if lf k = st then wf k * (P * P) else wf k) := Lib.hid (by unfold Pl.unW; rw [hgo.out, hst.out, hacv.out])
          have jk := hw.out k hlt
          obtain ⟨uk, huk⟩ : ∃ u, lf k = u := ⟨_, rfl⟩
          obtain ⟨vk, hvk⟩ : ∃ v, wf k = v := ⟨_, rfl⟩
          rw [huk] at ql eL eW
          rw [hvk] at qw eW jk
          have jac : (P : Int) = 1 ∨ (P : Int) = -1 ∨ (P : Int) = 0 := jP
          have w1 := wrap_bd (tri_bd (Pl.tri_mul jk jac))
          have w2 := wrap_bd (tri_bd (Pl.tri_mul jac jac))
          have w3 := wrap_bd (tri_bd (Pl.tri_mul jk (Pl.tri_mul jac jac)))
          clear jac jk
          by_cases hg : uk = gs
          · subst hg
            rw [if_pos rfl] at eL eW
            have hn := Lib.hid (((hV.out.setL ne k st).setW ne k (vk * P)).congr (lf' := fun c => if c < k + 1 then Pl.unL lf x y c else lf c) (wf' := fun c => if c < k + 1 then Pl.unW lf wf x y e c else wf c)
              (fun c _ => by
                by_cases e1 : c = k
                · subst e1; simp [eL.out]
                · by_cases e2 : c < k
                  · simp [e1, e2, show c < k + 1 by omega]
                  · simp [e1, e2, show ¬ c < k + 1 by omega])
              (fun c _ => by
                by_cases e1 : c = k
                · subst e1; simp [eW.out]
                · by_cases e2 : c < k
                  · simp [e1, e2, show c < k + 1 by omega]
                  · simp [e1, e2, show ¬ c < k + 1 by omega]))
            have hD := Lib.hid ((hC.out.setCell (p := ⟨lb, k, none⟩) (.inr (.inl rfl)) (.int .i64 (st : Int))).setCell (p := ⟨wb, k, none⟩) (.inr (.inr rfl)) (.int .i64 (vk * P)))
            have z4 : (wr.setCell ⟨lb, k, none⟩ (.int .i64 (st : Int))).cell? ⟨b4, 0, none⟩ = some (.slice (some ⟨wb, 0, none⟩) N cw) := (hV.out.setL ne k st).c4
            have zw : (wr.setCell ⟨lb, k, none⟩ (.int .i64 (st : Int))).cell? ⟨wb, k, none⟩ = some (.int .i64 vk) := by rw [← hvk]; have h := ((hV.out.setL ne k st).w k hlt).1; simpa using h
            have zf : (wr.setCell ⟨lb, k, none⟩ (.int .i64 (st : Int))).frozen? ⟨wb, k, none⟩ = false := ((hV.out.setL ne k st).w k hlt).2
            clear hV hC eL eW huk hvk
            go_wp2
            go_roundw
            case rel => exact ⟨k + 1, by omega, by go_num, hn, hD⟩
            case measure => first | (simp [RowKit.intOf]; done) | (simp [RowKit.intOf]; omega) | omega
          · have ng : ((uk : Int) == (gs : Int)) = false := by rw [beq_eq_false_iff_ne]; omega
            rw [if_neg hg] at eL eW
            by_cases hs : uk = st
            · subst hs
              rw [if_pos rfl] at eW
              have hn := Lib.hid ((hV.out.setW ne k (vk * (P * P))).congr (lf' := fun c => if c < k + 1 then Pl.unL lf x y c else lf c) (wf' := fun c => if c < k + 1 then Pl.unW lf wf x y e c else wf c)
                (fun c _ => by
                  by_cases e1 : c = k
                  · subst e1; simp [eL.out, huk]
                  · by_cases e2 : c < k
                    · simp [e2, show c < k + 1 by omega]
                    · simp [e2, show ¬ c < k + 1 by omega])
                (fun c _ => by
                  by_cases e1 : c = k
                  · subst e1; simp [eW.out]
                  · by_cases e2 : c < k
                    · simp [e1, e2, show c < k + 1 by omega]
                    · simp [e1, e2, show ¬ c < k + 1 by omega]))
              have hD := Lib.hid (hC.out.setCell (p := ⟨wb, k, none⟩) (.inr (.inr rfl)) (.int .i64 (vk * (P * P))))
              clear hV hC eL eW huk hvk
              go_wp2
              go_roundw
              case rel => exact ⟨k + 1, by omega, by go_num, hn, hD⟩
              case measure => first | (simp [RowKit.intOf]; done) | (simp [RowKit.intOf]; omega) | omega
            · have ns : ((uk : Int) == (st : Int)) = false := by rw [beq_eq_false_iff_ne]; omega
              rw [if_neg hs] at eW
              have hn := Lib.hid (hV.out.congr (lf' := fun c => if c < k + 1 then Pl.unL lf x y c else lf c) (wf' := fun c => if c < k + 1 then Pl.unW lf wf x y e c else wf c)
                (fun c _ => by
                  by_cases e1 : c = k
                  · subst e1; simp [eL.out, huk]
                  · by_cases e2 : c < k
                    · simp [e2, show c < k + 1 by omega]
                    · simp [e2, show ¬ c < k + 1 by omega])
                (fun c _ => by
                  by_cases e1 : c = k
                  · subst e1; simp [eW.out, hvk]
                  · by_cases e2 : c < k
                    · simp [e2, show c < k + 1 by omega]
                    · simp [e2, show ¬ c < k + 1 by omega]))
              clear hV eL eW huk hvk
              go_wp2
              go_roundw
              case rel => exact ⟨k + 1, by omega, by go_num, hn, hC⟩
              case measure => first | (simp [RowKit.intOf]; done) | (simp [RowKit.intOf]; omega) | omega
        · obtain rfl : k = N := by omega
          have i5 : ¬ (k : Int) < (k : Int) := by omega
          have hn := Lib.hid (hV.out.congr (lf' := Pl.unL lf x y) (wf' := Pl.unW lf wf x y e) (fun c hc => by simp [hc]) (fun c hc => by simp [hc]))
          clear hV
          go_wp2
          refine bodyPost_end (v := .tuple #[]) (by simp [results, Tryd.results78, go_sem]) rfl ?_
          exact ⟨rfl, hn, hC⟩
    · have z3 : ((st : Int) == (gs : Int)) = true := by rw [z1]; simp
      have z4 : (P == -1) = false := by rw [beq_eq_false_iff_ne]; exact z2
      clear z1 z2
      go_wp2
      go_loopw [51] (fun iv wr => ∃ k : Nat, k ≤ N ∧ iv = .int .i64 (k : Int) ∧ Hid (UN wr b3 b4 lb wb N cl cw (fun c => if c < k then Pl.unL lf x y c else lf c) (fun c => if c < k then Pl.unW lf wf x y e c else wf c)) ∧ Hid (But (fun g => g = lb ∨ g = wb) w wr)) (fun iv _ => N - (RowKit.intOf iv).toNat)
      case atStart => exact ⟨0, Nat.zero_le _, rfl, Lib.hid (hV.out.congr (fun k _ => by simp) (fun k _ => by simp)), hC⟩
      case round =>
        clear hV hC
        obtain ⟨k, hk, rfl, hV, hC⟩ := hrel
        by_cases hlt : k < N
        · have i5 : (k : Int) < (N : Int) := by omega
          have i6 : (0 : Int) ≤ (k : Int) := by omega
          have q3 := hV.out.c3
          have q4 := hV.out.c4
          obtain ⟨ql, qlf⟩ := hV.out.l k hlt
          obtain ⟨qw, qwf⟩ := hV.out.w k hlt
          simp only [Nat.lt_irrefl, if_false] at ql qw
          have eL : Hid (Pl.unL lf x y k = if lf k = gs then st else lf k) := Lib.hid (by unfold Pl.unL; rw [hgo.out, hst.out])
          have eW : Hid (Pl.unW lf wf x y e k = if lf k = gs then wf k * P else if lf k = st then wf k * (P * P) else wf k) := Lib.hid (by unfold Pl.unW; rw [hgo.out, hst.out, hacv.out])
          have jk := hw.out k hlt
          obtain ⟨uk, huk⟩ : ∃ u, lf k = u := ⟨_, rfl⟩
          obtain ⟨vk, hvk⟩ : ∃ v, wf k = v := ⟨_, rfl⟩
          rw [huk] at ql eL eW
          rw [hvk] at qw eW jk
          have jac : (P : Int) = 1 ∨ (P : Int) = -1 ∨ (P : Int) = 0 := jP
          have w1 := wrap_bd (tri_bd (Pl.tri_mul jk jac))
          have w2 := wrap_bd (tri_bd (Pl.tri_mul jac jac))
          have w3 := wrap_bd (tri_bd (Pl.tri_mul jk (Pl.tri_mul jac jac)))
          clear jac jk
          by_cases hg : uk = gs
          · subst hg
            rw [if_pos rfl] at eL eW
            have hn := Lib.hid (((hV.out.setL ne k st).setW ne k (vk * P)).congr (lf' := fun c => if c < k + 1 then Pl.unL lf x y c else lf c) (wf' := fun c => if c < k + 1 then Pl.unW lf wf x y e c else wf c)
              (fun c _ => by
                by_cases e1 : c = k
                · subst e1; simp [eL.out]
                · by_cases e2 : c < k
                  · simp [e1, e2, show c < k + 1 by omega]
                  · simp [e1, e2, show ¬ c < k + 1 by omega])
              (fun c _ => by
                by_cases e1 : c = k
                · subst e1; simp [eW.out]
                · by_cases e2 : c < k
                  · simp [e1, e2, show c < k + 1 by omega]
                  · simp [e1, e2, show ¬ c < k + 1 by omega]))
            have hD := Lib.hid ((hC.out.setCell (p := ⟨lb, k, none⟩) (.inr (.inl rfl)) (.int .i64 (st : Int))).setCell (p := ⟨wb, k, none⟩) (.inr (.inr rfl)) (.int .i64 (vk * P)))
            have z4 : (wr.setCell ⟨lb, k, none⟩ (.int .i64 (st : Int))).cell? ⟨b4, 0, none⟩ = some (.slice (some ⟨wb, 0, none⟩) N cw) := (hV.out.setL ne k st).c4
            have zw : (wr.setCell ⟨lb, k, none⟩ (.int .i64 (st : Int))).cell? ⟨wb, k, none⟩ = some (.int .i64 vk) := by rw [← hvk]; have h := ((hV.out.setL ne k st).w k hlt).1; simpa using h
            have zf : (wr.setCell ⟨lb, k, none⟩ (.int .i64 (st : Int))).frozen? ⟨wb, k, none⟩ = false := ((hV.out.setL ne k st).w k hlt).2
            clear hV hC eL eW huk hvk
            go_wp2
            go_roundw
            case rel => exact ⟨k + 1, by omega, by go_num, hn, hD⟩
            case measure => first | (simp [RowKit.intOf]; done) | (simp [RowKit.intOf]; omega) | omega
          · have ng : ((uk : Int) == (gs : Int)) = false := by rw [beq_eq_false_iff_ne]; omega
            rw [if_neg hg] at eL eW
            by_cases hs : uk = st
            · subst hs
              rw [if_pos rfl] at eW
              have hn := Lib.hid ((hV.out.setW ne k (vk * (P * P))).congr (lf' := fun c => if c < k + 1 then Pl.unL lf x y c else lf c) (wf' := fun c => if c < k + 1 then Pl.unW lf wf x y e c else wf c)
                (fun c _ => by
                  by_cases e1 : c = k
                  · subst e1; simp [eL.out, huk]
                  · by_cases e2 : c < k
                    · simp [e2, show c < k + 1 by omega]
                    · simp [e2, show ¬ c < k + 1 by omega])
                (fun c _ => by
                  by_cases e1 : c = k
                  · subst e1; simp [eW.out]
                  · by_cases e2 : c < k
                    · simp [e1, e2, show c < k + 1 by omega]
                    · simp [e1, e2, show ¬ c < k + 1 by omega]))
              have hD := Lib.hid (hC.out.setCell (p := ⟨wb, k, none⟩) (.inr (.inr rfl)) (.int .i64 (vk * (P * P))))
              clear hV hC eL eW huk hvk
              go_wp2
              go_roundw
              case rel => exact ⟨k + 1, by omega, by go_num, hn, hD⟩
              case measure => first | (simp [RowKit.intOf]; done) | (simp [RowKit.intOf]; omega) | omega
            · have ns : ((uk : Int) == (st : Int)) = false := by rw [beq_eq_false_iff_ne]; omega
              rw [if_neg hs] at eW
              have hn := Lib.hid (hV.out.congr (lf' := fun c => if c < k + 1 then Pl.unL lf x y c else lf c) (wf' := fun c => if c < k + 1 then Pl.unW lf wf x y e c else wf c)
                (fun c _ => by
                  by_cases e1 : c = k
                  · subst e1; simp [eL.out, huk]
                  · by_cases e2 : c < k
                    · simp [e2, show c < k + 1 by omega]
                    · simp [e2, show ¬ c < k + 1 by omega])
                (fun c _ => by
                  by_cases e1 : c = k
                  · subst e1; simp [eW.out, hvk]
                  · by_cases e2 : c < k
                    · simp [e2, show c < k + 1 by omega]
                    · simp [e2, show ¬ c < k + 1 by omega]))
              clear hV eL eW huk hvk
              go_wp2
              go_roundw
              case rel => exact ⟨k + 1, by omega, by go_num, hn, hC⟩
              case measure => first | (simp [RowKit.intOf]; done) | (simp [RowKit.intOf]; omega) | omega
        · obtain rfl : k = N := by omega
          have i5 : ¬ (k : Int) < (k : Int) := by omega
          have hn := Lib.hid (hV.out.congr (lf' := Pl.unL lf x y) (wf' := Pl.unW lf wf x y e) (fun c hc => by simp [hc]) (fun c hc => by simp [hc]))
          clear hV
          go_wp2
          refine bodyPost_end (v := .tuple #[]) (by simp [results, Tryd.results78, go_sem]) rfl ?_
          exact ⟨rfl, hn, hC⟩
end Go.Proofs.YtidcedilfhmllaaDoor
