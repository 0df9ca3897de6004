/- Several texts one behind the other. -/
import Derived.Test.YtkcchangkhklcaaZMFiYb
import Derived.Test.YtkcchangkhklcaaZMUjUk
import Derived.Test.YtkcchangkhklcaaZ06
import Derived.BigRegion
set_option linter.unusedSimpArgs false
set_option linter.unusedVariables false
/- What the laws share: a system in its box, a table of rows, lengths of the greatest and the least values. -/
namespace Ch
theorem least_len {n : Int} {L : List Lk} {k : Nat} (hE : (check n L).1 = 0 → enough n.toNat L [] k = true) (h : opn n L [] k = 0) : (least n L k).length = n.toNat := by
  obtain ⟨h1, _, h3⟩ := opn_ok h
  obtain ⟨n1, _⟩ := check_ok h1
  unfold least
  rw [List.length_map]
  exact (enough_bt (hE h1) h3 (v := 0) (by omega)).2.1
theorem great_len {n : Int} {L : List Lk} {k : Nat} (hE : (check n (turned L)).1 = 0 → enough n.toNat (turned L) [] k = true) (h : greatE n L k = 0) : (greatest n L k).length = n.toNat := by
  unfold greatest
  rw [List.length_map]
  refine least_len hE ?_
  unfold greatE at h
  split at h
  · rename_i h1; exact absurd h h1
  · exact h
theorem leastW_zero {n : Int} {L : List Lk} {k : Nat} (hE : EN n L k) (h : (leastW n L k).2 = 0) : (check n L).1 = 0 ∧ (leastW n L k).1.length = n.toNat ∧ ∀ i, i < n.toNat → -1152921504606846976 ≤ (leastW n L k).1.getD i 0 ∧ (leastW n L k).1.getD i 0 ≤ 1152921504606846976 := by
  unfold leastW whereB at h ⊢
  by_cases h1 : opn n L [] k = 0
  · have h1' : ¬ opn n L [] k ≠ 0 := fun hh => hh h1
    rw [if_neg h1'] at h ⊢
    by_cases h2 : (least n L k).any (fun y => y == -free) = true
    · rw [if_pos h2] at h; cases h
    · rw [if_neg h2]
      exact ⟨(opn_ok h1).1, least_len hE.en h1, least_range hE.en h1⟩
  · rw [if_pos h1] at h; exact absurd h h1
end Ch
namespace Go.Proofs.Ytkcchangkhklcaa
open Go.RowKit

theorem ints_of_row {W : World} {sb n : Nat} {f : Nat → Value} {l : List Int} (h : W.rowIs sb 3 n f) (hf : ∀ i, i < n → f i = .int .i64 (l.getD i 0)) (hl : l.length = n) : IntsAt W (some ⟨sb, 0, none⟩) l := by
  intro k hk
  have e : (⟨sb, 0, none⟩ : Addr).add k = ⟨sb, k, none⟩ := by unfold Addr.add; split <;> simp_all
  refine ⟨_, rfl, ?_⟩
  rw [e, h.cell (i := k) (by omega), hf k (by omega)]
/-- the world in a law: the system in its box -/
structure SB (w : World) (n : Int) (a : Option Addr) (m cap : Nat) (L : List Ch.Lk) (W : World) : Prop where
  c0 : W.cell? ⟨w.heap.size, 0, none⟩ = some (.int .i64 n)
  c1 : W.cell? ⟨w.heap.size, 1, none⟩ = some (.slice a m cap)
  l : LksAt W a L
  b : Below w.heap.size w W
theorem SB.below {w W W' : World} {n : Int} {a : Option Addr} {m cap : Nat} {L : List Ch.Lk} (h : SB w n a m cap L W) (hb : Below W.heap.size W W') : SB w n a m cap L W' := ⟨kept1 h.c0 hb, kept1 h.c1 hb, h.l.below hb, h.b.trans (hb.mono h.b.size)⟩
/-- another system in a box of its own -/
structure SX (xb : Nat) (n : Int) (a : Option Addr) (m cap : Nat) (L : List Ch.Lk) (W : World) : Prop where
  c0 : W.cell? ⟨xb, 0, none⟩ = some (.int .i64 n)
  c1 : W.cell? ⟨xb, 1, none⟩ = some (.slice a m cap)
  l : LksAt W a L
theorem SX.below {W W' : World} {xb : Nat} {n : Int} {a : Option Addr} {m cap : Nat} {L : List Ch.Lk} (h : SX xb n a m cap L W) (hb : Below W.heap.size W W') : SX xb n a m cap L W' := ⟨kept1 h.c0 hb, kept1 h.c1 hb, h.l.below hb⟩
theorem keepY {w w' : World} {p q : Addr} {x y : Value} (h : w.cell? p = some x ∧ w.cell? q = some y) (hb : Below w.heap.size w w') : w'.cell? p = some x ∧ w'.cell? q = some y := ⟨kept1 h.1 hb, kept1 h.2 hb⟩
/-- a table -/
structure TBL (N ob S0 : Nat) (D : Nat → Nat → Int) (W : World) : Prop where
  o : W.rowIs ob 32 N (fun u => .slice (some ⟨S0 + u, 0, none⟩) N N)
  r : ∀ u, u < N → W.rowIs (S0 + u) 3 N (fun j => .int .i64 (D u j))
theorem TBL.below {N ob S0 : Nat} {D : Nat → Nat → Int} {W W' : World} (h : TBL N ob S0 D W) (hb : Below W.heap.size W W') : TBL N ob S0 D W' := ⟨Below.row hb h.o, fun u hu => Below.row hb (h.r u hu)⟩
theorem TBL.row {N ob S0 : Nat} {D : Nat → Nat → Int} {W : World} (h : TBL N ob S0 D W) {u : Nat} (hu : u < N) : W.cell? ⟨ob, u, none⟩ = some (.slice (some ⟨S0 + u, 0, none⟩) N N) := h.o.cell hu
theorem TBL.get {N ob S0 : Nat} {D : Nat → Nat → Int} {W : World} (h : TBL N ob S0 D W) {u v : Nat} (hu : u < N) (hv : v < N) : W.cell? ⟨S0 + u, v, none⟩ = some (.int .i64 (D u v)) := (h.r u hu).cell hv

end Go.Proofs.Ytkcchangkhklcaa

/- Contracts of the specification: filled. A table whose rows lie in blocks of their own. -/
namespace Go.Proofs.Ytkcchangkhklcaa
open Go.RowKit

/-- a table whose rows lie in blocks of their own -/
structure TB2 (N ob : Nat) (R : Nat → Nat) (D : Nat → Nat → Int) (W : World) : Prop where
  o : ∀ u, u < N → W.cell? ⟨ob, u, none⟩ = some (.slice (some ⟨R u, 0, none⟩) N N)
  r : ∀ u, u < N → W.rowIs (R u) 3 N (fun j => .int .i64 (D u j))
  i : ∀ u v, u < N → v < N → R u = R v → u = v
  ne : ∀ u, u < N → R u ≠ ob
  ty : ∃ c, W.heap[ob]? = some (.cells c 32 (0, 0))
theorem heap_lt {W : World} {b : Nat} {o : Obj} (h : W.heap[b]? = some o) : b < W.heap.size := (Array.getElem?_eq_some_iff.1 h).1
theorem TB2.below {N ob : Nat} {R : Nat → Nat} {D : Nat → Nat → Int} {W W' : World} (h : TB2 N ob R D W) (hb : Below W.heap.size W W') : TB2 N ob R D W' := ⟨fun u hu => kept1 (h.o u hu) hb, fun u hu => Below.row hb (h.r u hu), h.i, h.ne, by
  obtain ⟨c, hc⟩ := h.ty
  exact ⟨c, (hb.block _ (heap_lt hc)).trans hc⟩⟩
theorem TB2.congr {N ob : Nat} {R : Nat → Nat} {D E : Nat → Nat → Int} {W : World} (h : TB2 N ob R D W) (e : ∀ u v, u < N → v < N → D u v = E u v) : TB2 N ob R E W := ⟨h.o, fun u hu => (h.r u hu).congr (fun j hj => by rw [e u j hu hj]), h.i, h.ne, h.ty⟩
theorem TB2.get {N ob : Nat} {R : Nat → Nat} {D : Nat → Nat → Int} {W : World} (h : TB2 N ob R D W) {u v : Nat} (hu : u < N) (hv : v < N) : W.cell? ⟨R u, v, none⟩ = some (.int .i64 (D u v)) := (h.r u hu).cell hv
theorem TB2.set {N ob : Nat} {R : Nat → Nat} {D : Nat → Nat → Int} {W : World} (h : TB2 N ob R D W) {u v : Nat} (hu : u < N) (z : Int) : TB2 N ob R (fun a b => if a = u ∧ b = v then z else D a b) (W.setCell ⟨R u, v, none⟩ (.int .i64 z)) := by
  refine ⟨fun a ha => cell_set_ne (h.o a ha) (fun e => h.ne u hu e.symm), fun a ha => ?_, h.i, h.ne, by
    obtain ⟨c, hc⟩ := h.ty
    exact ⟨c, (Deep.blk_setCell_other _ _ _ _ (fun e => h.ne u hu e.symm)).trans hc⟩⟩
  by_cases e : a = u
  · subst e
    refine ((h.r a ha).set v _).congr (fun j hj => ?_)
    by_cases e2 : j = v
    · rw [if_pos e2, if_pos ⟨rfl, e2⟩]
    · rw [if_neg e2, if_neg (fun h => e2 h.2)]
  · refine ((h.r a ha).setOther (a := ⟨R u, v, none⟩) (fun e2 => e (h.i a u ha hu e2)) _).congr (fun j hj => ?_)
    rw [if_neg (fun h => e h.1)]
theorem TBL.two {N ob S0 : Nat} {D : Nat → Nat → Int} {W : World} (h : TBL N ob S0 D W) (hlt : ob < S0) : TB2 N ob (fun u => S0 + u) D W := ⟨fun u hu => h.row hu, h.r, fun u v _ _ e => by simpa using e, fun u _ => by omega, by
  obtain ⟨c, hc, _⟩ := h.o
  exact ⟨c, hc⟩⟩

/-- the rows that filled has made -/
structure FO (w W : World) (N k : Nat) (v : Value) (R : Nat → Nat) : Prop where
  own : W.ownsRow w.heap.size 32 1 v k ((List.range k).map fun u => .slice (some ⟨R u, 0, none⟩) N N)
  r : ∀ u, u < k → W.rowIs (R u) 3 N (fun j => .int .i64 (if u = j then 0 else 1152921504606846976))
  i : ∀ a b, a < k → b < k → R a = R b → a = b
  lo : ∀ u, u < k → w.heap.size ≤ R u
  b : Below w.heap.size w W
theorem FO.start (w : World) (N : Nat) : FO w w N 0 (.slice none 0 0) (fun _ => 0) := ⟨World.ownsRow_nil _ _ _ _, fun u hu => by omega, fun a b ha => by omega, fun u hu => by omega, Below.refl _ _⟩
theorem FO.below {w W W' : World} {N k : Nat} {v : Value} {R : Nat → Nat} (h : FO w W N k v R) (hb : Below W.heap.size W W') : FO w W' N k v R :=
  ⟨owns_but (T := fun _ => False) h.own ((But.of_below hb).mono (fun _ _ h => h)) (fun _ _ h => h), fun u hu => Below.row hb (h.r u hu), h.i, h.lo, h.b.trans (hb.mono h.b.size)⟩
theorem own_type {W : World} {base n size g : Nat} {v : Value} {xs : List Value} {f : Nat → Value} {q N : Nat} (h : W.ownsRow base 32 size v n xs) (hr : W.rowIs q 3 N f) (hg : v.ownBlock = some g) : g ≠ q := by
  rintro rfl
  obtain ⟨_, h2⟩ := h
  rcases h2 with ⟨hv, _⟩ | ⟨g', cap, cur, hv, _, hc, _⟩
  · rw [hv] at hg; cases hg
  · rw [hv] at hg; cases hg
    obtain ⟨c, h3, _⟩ := hr
    rw [hc] at h3
    simp at h3
theorem FO.setrow {w W : World} {N k q j : Nat} {v : Value} {R : Nat → Nat} {f : Nat → Value} (h : FO w W N k v R) (hr : W.rowIs q 3 N f) (hq : w.heap.size ≤ q) (hne : ∀ u, u < k → R u ≠ q) (x : Value) : FO w (W.setCell ⟨q, j, none⟩ x) N k v R :=
  ⟨owns_but (T := fun g => g = q) h.own ((But.refl (fun g => g = q) W).setCell (p := ⟨q, j, none⟩) (.inr rfl) _) (fun _ hg => own_type h.own hr hg), fun u hu => (h.r u hu).setOther (a := ⟨q, j, none⟩) (hne u hu) _, h.i, h.lo, h.b.setCell (p := ⟨q, j, none⟩) hq _⟩
theorem FO.push {w W W' : World} {N k q : Nat} {v v' : Value} {R : Nat → Nat} (o : Obj) (h : FO w W N k v R) (hr : W.rowIs q 3 N (fun j => .int .i64 (if k = j then 0 else 1152921504606846976))) (hq : w.heap.size ≤ q) (hne : ∀ u, u < k → R u ≠ q)
    (hown : W'.ownsRow w.heap.size 32 1 v' (k + 1) (((List.range k).map fun u => .slice (some ⟨R u, 0, none⟩) N N) ++ [.slice (some ⟨q, 0, none⟩) N N])) (hg : (W.alloc o).grownBy W' v.ownBlock) : FO w W' N (k + 1) v' (fun u => if u = k then q else R u) := by
  have hkeep : ∀ {b : Nat} {f : Nat → Value}, W.rowIs b 3 N f → W'.rowIs b 3 N f := fun {b f} h1 => (h1.alloc o).of_block (hg.block _ (h1.alloc o).lt (fun e => own_type (h.own.alloc o) (h1.alloc o) e.symm rfl))
  refine ⟨?_, fun u hu => ?_, fun a b ha hb e => ?_, fun u hu => ?_, below_grown (h.b.alloc h.b.size o) (h.own.alloc o) hg⟩
  · rw [List.range_succ, List.map_append]
    have e : (List.range k).map (fun u => Value.slice (some ⟨if u = k then q else R u, 0, none⟩) N N) = (List.range k).map fun u => Value.slice (some ⟨R u, 0, none⟩) N N :=
      List.map_congr_left fun u hu => by rw [if_neg (by have := List.mem_range.1 hu; omega)]
    rw [e]
    simpa using hown
  · by_cases e : u = k
    · subst e
      simp only [if_pos]
      exact hkeep hr
    · simp only [if_neg e]
      exact hkeep (h.r u (by omega))
  · by_cases e1 : a = k
    · by_cases e2 : b = k
      · omega
      · rw [if_pos e1, if_neg e2] at e
        exact absurd e.symm (hne b (by omega))
    · by_cases e2 : b = k
      · rw [if_neg e1, if_pos e2] at e
        exact absurd e (hne a (by omega))
      · rw [if_neg e1, if_neg e2] at e
        exact h.i a b (by omega) (by omega) e
  · by_cases e : u = k
    · rw [if_pos e]; exact hq
    · rw [if_neg e]; exact h.lo u (by omega)
/-- what filled leaves -/
def FlPost (w : World) (N : Nat) (e : Ending) (w' : World) : Prop :=
  ∃ ob cap R, e = .returned (.slice (some ⟨ob, 0, none⟩) N cap) ∧ TB2 N ob R (fun u v => if u = v then 0 else 1152921504606846976) w' ∧ Below w.heap.size w w' ∧ w.heap.size ≤ ob ∧ ∀ u, u < N → w.heap.size ≤ R u
theorem FO.done {w W : World} {N : Nat} {v : Value} {R : Nat → Nat} (h : FO w W N N v R) (n1 : 1 ≤ N) : FlPost w N (.returned v) W := by
  rcases h.own.2 with ⟨_, h0⟩ | ⟨g, cap, cur, hv, hbg, hgb, hnc, _, hcs, ht⟩
  · omega
  · refine ⟨g, cap, R, by rw [hv], ⟨fun u hu => ?_, h.r, h.i, fun u hu e => own_type h.own (h.r u hu) (by rw [hv]; rfl) e.symm, ⟨_, hgb⟩⟩, h.b, hbg, h.lo⟩
    have hu2 : (((List.range N).map fun u => Value.slice (some ⟨R u, 0, none⟩) N N))[u]? = some (.slice (some ⟨R u, 0, none⟩) N N) := by
      rw [List.getElem?_map, List.getElem?_range hu]; rfl
    rw [← ht, List.getElem?_take_of_lt (by omega), Array.getElem?_toList] at hu2
    simp [World.cell?, hgb, hu2]

set_option maxRecDepth 100000 in
set_option maxHeartbeats 4000000 in
theorem filled_any (N : Nat) (n1 : 1 ≤ N) (n2 : N ≤ 100) (w : World) :
    Calls Try.prog 49 #[.int .i64 N] w (FlPost w N) := by
  obtain ⟨i0, hi, hz0, hz1, hz2⟩ := info_parts infoSl
  have hmk := run_make_row' (P := Try.prog) 32 3 (.int .i64 0) 8 Try.underlying32 infoInt rfl .i64 .i64 N (by omega) (by omega)
  have hFO := Lib.hid (FO.start w N)
  go_enter Try.func49, Try.ntmps49
  go_wp2
  go_loopw [4, 3] (fun i vv wr => ∃ (k : Nat) (R : Nat → Nat) (v : Value), k ≤ N ∧ i = .int .i64 k ∧ v = vv ∧ Hid (FO w wr N k v R)) (fun i _ _ => N - (RowKit.intOf i).toNat)
  case atStart => exact ⟨0, _, _, Nat.zero_le _, rfl, rfl, hFO⟩
  case round =>
    clear hFO
    obtain ⟨k, R, v, hk, rfl, rfl, HF⟩ := hrel
    by_cases hlt : k < N
    · have hi5 : (k : Int) < (N : Int) := by omega
      have hsz := HF.out.b.size
      have HX := Lib.hid (HF.out.below ((Below.refl _ _).alloc (Nat.le_refl _) (Obj.cells (madeCells #[.int .i64 0] N) 3)))
      have HR : Hid ((wr.alloc (Obj.cells (madeCells #[.int .i64 0] N) 3)).rowIs wr.heap.size 3 N (fun j => .int .i64 (if j < 0 then (if k = j then 0 else 1152921504606846976) else 0))) := Lib.hid ((World.rowIs_made wr (.int .i64 0) N 3).congr (fun j hj => by rw [if_neg (by omega)]))
      have hne : Hid (∀ u, u < k → R u ≠ wr.heap.size) := Lib.hid fun u hu e => by have := (HF.out.r u hu).lt; omega
      clear HF
      go_upto_region 6 with fail
      generalize wr.alloc (Obj.cells (madeCells #[.int .i64 0] N) 3) = X at *
      generalize wr.heap.size = q at *
      go_wp2
      go_loopw [6] (fun i wr => ∃ j : Nat, j ≤ N ∧ i = .int .i64 j ∧ Hid (FO w wr N k v R) ∧ Hid (wr.rowIs q 3 N (fun b => .int .i64 (if b < j then (if k = b then 0 else 1152921504606846976) else 0)))) (fun i _ => N - (RowKit.intOf i).toNat)
      case atStart => exact ⟨0, Nat.zero_le _, rfl, HX, HR⟩
      case round =>
        clear HX HR
        obtain ⟨j, hj, rfl, HF, HR⟩ := hrel
        by_cases hlt2 : j < N
        · have hi6 : (j : Int) < (N : Int) := by omega
          have hi7 : (0 : Int) ≤ (j : Int) := by omega
          have d1 := HR.out.cell (i := j) hlt2
          have z1 := HR.out.frozen j
          have HF2 := Lib.hid (HF.out.setrow (j := j) HR.out hsz hne.out (.int .i64 1152921504606846976))
          have HR2 := Lib.hid (HR.out.set j (.int .i64 1152921504606846976))
          by_cases e : k = j
          · subst e
            have d2 := HR2.out.cell (i := k) hlt2
            have z2 := HR2.out.frozen k
            have HF3 := Lib.hid (HF2.out.setrow (j := k) HR2.out hsz hne.out (.int .i64 0))
            have HR3 : Hid (((_ : World).setCell ⟨q, k, none⟩ (.int .i64 0)).rowIs q 3 N (fun b => .int .i64 (if b < k + 1 then (if k = b then 0 else 1152921504606846976) else 0))) := Lib.hid ((HR2.out.set k (.int .i64 0)).congr (fun b hb => by
              (repeat' split) <;> first | rfl | (exfalso; omega)))
            clear HF HR HF2 HR2
            go_wp2
            go_roundw
            case rel => exact ⟨k + 1, by omega, by go_num, HF3, HR3⟩
            case measure => show N - ((k : Int) + 1).toNat < N - (k : Int).toNat; omega
          · have e9 : ((k : Int) == (j : Int)) = false := by rw [beq_eq_false_iff_ne]; omega
            have HR3 : Hid (((_ : World).setCell ⟨q, j, none⟩ (.int .i64 1152921504606846976)).rowIs q 3 N (fun b => .int .i64 (if b < j + 1 then (if k = b then 0 else 1152921504606846976) else 0))) := Lib.hid (HR2.out.congr (fun b hb => by
              (repeat' split) <;> first | rfl | (exfalso; omega)))
            clear HF HR HR2
            go_wp2
            go_roundw
            case rel => exact ⟨j + 1, by omega, by go_num, HF2, HR3⟩
            case measure => show N - ((j : Int) + 1).toNat < N - (j : Int).toNat; omega
        · obtain rfl : j = N := by omega
          have hi6 : ¬ (j : Int) < (j : Int) := by omega
          have HR2 := Lib.hid (HR.out.congr (g := fun b => .int .i64 (if k = b then 0 else 1152921504606846976)) (fun b hb => by rw [if_pos hb]))
          have hown := HF.out.own
          have hsz3 := HF.out.b.size
          clear HR
          go_wp2_with (first
            | (at_builtin; refine wpList_append_own _ rfl (.tmp 28) (.tmp 30) 35 rfl w.heap.size 32 i0 (.slice none 0 0) 1 24 Try.underlying35 hi hz0 hz1 hz2 rfl (by decide) _ _ _ rfl (hown.alloc _) ⟨wr.heap.size, 0, none⟩ 1 1 [.slice (some ⟨q, 0, none⟩) j j] rfl rfl ?c1 ?c2 ?c3 ?c4 ?c5 ?_)
            | fail)
          case c2 => rfl
          case c3 => unfold maxLen; omega
          case c4 => omega
          case c5 => omega
          intro v' w4 hown' hgrow hnn
          have HI3 := Lib.hid (HF.out.push _ HR2.out hsz hne.out hown' hgrow)
          clear hown hown' hgrow hnn HF HR2
          go_wp2
          go_roundw
          case rel => exact ⟨k + 1, _, _, by omega, by go_num, rfl, HI3⟩
          case measure => show j - ((k : Int) + 1).toNat < j - (k : Int).toNat; omega
    · obtain rfl : k = N := by omega
      have hi5 : ¬ (k : Int) < (k : Int) := by omega
      go_wp2
      go_ret
      exact HF.out.done n1
end Go.Proofs.Ytkcchangkhklcaa
