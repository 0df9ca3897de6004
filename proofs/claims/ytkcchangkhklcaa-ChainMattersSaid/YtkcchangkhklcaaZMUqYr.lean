/- Several texts one behind the other. -/
import Derived.Test.YtkcchangkhklcaaZMUnUo
import Derived.Test.YtkcchangkhklcaaZMFqFv
import Derived.Test.YtkcchangkhklcaaZ06
import Derived.Test.YtkcchangkhklcaaZMFiYb
import Derived.StillTailTactics
set_option linter.unusedSimpArgs false
set_option linter.unusedVariables false
/- Package chain, mirrored: Suspects, Idle and Reduce as the specification finds them. -/
namespace Ch

theorem EA.fy_cov {n : Int} {L : List Lk} {k k2 : Nat} {D : List Bool} (h : EA n L k) (ho : opn n L [] k = 0) (h2 : EA n (kept L D) k2) : (∀ u, u < n.toNat → ∀ v, v < n.toNat → fyT n.toNat L u v = fyT n.toNat (kept L D) u v) ↔ Cov L [] L D := by
  rw [← h.kept_tb ho h2]
  have ho2 := h.kept_opn ho h2
  constructor
  · intro H u v hu hv
    rw [← fyT_tb h.en ho hu hv, ← fyT_tb h2.en ho2 hu hv]
    exact H u hu v hv
  · intro H u hu v hv
    rw [fyT_tb h.en ho hu hv, fyT_tb h2.en ho2 hu hv]
    exact H u v hu hv
theorem EA.spares_all {n : Int} {L : List Lk} {k q : Nat} {D : List Bool} (h : EA n L k) (ho : opn n L [] k = 0) (hq : q < L.length) (hD : D.getD q false = false) (hC : Cov L [] L D) : Ch.spares n.toNat L D k q = true ↔ Cov L [] L (D.set q true) := by
  rw [h.spares ho hq hD]
  exact ⟨fun h2 => hC.trans h2, fun h2 => (cov_less (E := []) fun _ _ _ => rfl).trans h2⟩
theorem wo_kept {L : List Lk} {which : List Int} {D : List Bool} (h : ∀ i : Nat, i < L.length → ((i : Int) ∈ which ↔ D.getD i false = true)) : wo L which L.length = kept L D := by
  unfold wo kept leftK
  congr 1
  refine List.filter_congr fun i hi => ?_
  have hi := List.mem_range.1 hi
  have e := h i hi
  cases h2 : D.getD i false
  · rw [decide_eq_false (fun h3 => by have := e.1 h3; rw [h2] at this; cases this)]
  · rw [decide_eq_true (e.2 h2)]
theorem set_get {D : List Bool} {q i : Nat} (hq : q < D.length) : (D.set q true).getD i false = true ↔ i = q ∨ D.getD i false = true := by
  by_cases e : i = q
  · subst e; rw [set_true_eq hq]; simp
  · rw [set_true_ne e]; simp [e]
/-- without one link -/
theorem wo_one {L : List Lk} {q : Nat} (hq : q < L.length) : wo L [(q : Int)] L.length = kept L ((none' L.length).set q true) := wo_kept fun i _ => by
  rw [set_get (by rw [none_len]; exact hq), none_get, List.mem_singleton]
  constructor
  · intro h; exact .inl (by omega)
  · rintro (h | h)
    · rw [h]
    · cases h
/-- what Reduce of the specification has left out behind c links -/
def gR (n : Nat) (L : List Lk) (k : Nat) : Nat → List Nat
  | 0 => []
  | c + 1 => if spares n L (rd n L k c) k (L.length - 1 - c) then (L.length - 1 - c) :: gR n L k c else gR n L k c
theorem gR_len (n : Nat) (L : List Lk) (k : Nat) : ∀ c, (gR n L k c).length ≤ c
  | 0 => Nat.le_refl _
  | c + 1 => by
    have := gR_len n L k c
    rw [gR]
    split
    · rw [List.length_cons]; omega
    · omega
theorem gR_mem {n : Nat} {L : List Lk} {k i : Nat} : ∀ {c : Nat}, c ≤ L.length → (i ∈ gR n L k c ↔ (rd n L k c).getD i false = true)
  | 0, _ => by
    have e : rd n L k 0 = none' L.length := rfl
    rw [e, none_get]
    simp [gR]
  | c + 1, hc => by
    have ih := gR_mem (n := n) (L := L) (k := k) (i := i) (c := c) (by omega)
    cases hs : spares n L (rd n L k c) k (L.length - 1 - c)
    · rw [rd_miss hs, gR, hs]
      exact ih
    · rw [rd_hit hs, gR, hs, set_get (by rw [rd_len]; omega)]
      simp only [if_true, List.mem_cons, ih]
theorem gR_hit {n : Nat} {L : List Lk} {k c : Nat} (h : spares n L (rd n L k c) k (L.length - 1 - c) = true) : gR n L k (c + 1) = (L.length - 1 - c) :: gR n L k c := by rw [gR, if_pos h]
theorem gR_miss {n : Nat} {L : List Lk} {k c : Nat} (h : spares n L (rd n L k c) k (L.length - 1 - c) = false) : gR n L k (c + 1) = gR n L k c := by rw [gR, h]; rfl
theorem wo_gR {n : Nat} {L : List Lk} {k c : Nat} (hc : c < L.length) : wo L (ints ((L.length - 1 - c) :: gR n L k c)) L.length = kept L ((rd n L k c).set (L.length - 1 - c) true) := wo_kept fun i _ => by
  rw [mem_ints, set_get (by rw [rd_len]; omega), List.mem_cons, gR_mem (by omega)]
theorem goneK_gR {n : Nat} {L : List Lk} {k : Nat} : goneK (gR n L k L.length) L.length = leftK (rd n L k L.length) L.length := by
  unfold goneK leftK
  refine List.filter_congr fun i _ => ?_
  have e : ((i : Int) ∈ ints (gR n L k L.length)) ↔ (rd n L k L.length).getD i false = true := by rw [mem_ints, gR_mem (Nat.le_refl _)]
  cases h : (rd n L k L.length).getD i false
  · rw [decide_eq_false (fun h2 => by have := e.1 h2; rw [h] at this; cases this)]
  · rw [decide_eq_true (e.2 h)]

/-! ### Suspects -/
theorem way_drop {L : List Lk} {D : List Bool} : ∀ {l : List Nat} {u v w : Int}, way L [] u l v w → (∀ q ∈ l, D.getD q false = false) → way L D u l v w
  | [], _, _, _, h, _ => h
  | i :: r, u, v, w, h, hd => by
    obtain ⟨h0, _, hf, ht⟩ := h
    exact ⟨h0, hd i List.mem_cons_self, hf, way_drop ht fun q hq => hd q (List.mem_cons_of_mem _ hq)⟩
theorem kept_sol_iff {L : List Lk} {D : List Bool} {σ : Nat → Int} : Sol (kept L D) [] σ ↔ Sol L D σ := by
  constructor
  · refine sol_links fun i hi hd => ?_
    obtain ⟨j, hj, e⟩ := kept_of hi hd
    exact ⟨j, by rw [kept_len]; exact hj, rfl, by rw [kept_at hj, e]⟩
  · refine sol_links fun j hj _ => ?_
    rw [kept_len] at hj
    exact ⟨_, (kept_ix hj).1, (kept_ix hj).2, (kept_at hj).symm⟩
/-- with a twin, nothing is changed by leaving a link out -/
theorem twin_sol {L : List Lk} {i : Nat} {σ : Nat → Int} (hi : i < L.length) (ht : twin (none' L.length) i (L.getD i noLk) L 0 = true) (hs : Sol L ((none' L.length).set i true) σ) : Sol L [] σ := by
  refine sol_links (fun j hj _ => ?_) hs
  by_cases e : j = i
  · subst e
    obtain ⟨q, h1, h2, _, h4⟩ := twin_ex ht
    rw [Nat.zero_add] at h2
    exact ⟨q, h1, by rw [set_true_ne h2]; exact none_get _ _, h4⟩
  · exact ⟨j, hj, by rw [set_true_ne e]; exact none_get _ _, rfl⟩
theorem clash_nodup {L : List Lk} {c : List Nat} {x w : Int} (h : way L [] x c x w) (hw : w < 0) (hmin : ∀ r y z, way L [] y r y z → z < 0 → c.length ≤ r.length) : c.Nodup := by
  refine Classical.byContradiction fun hno => ?_
  obtain ⟨a, i, b, j, d, rfl, e⟩ := dup_split (g := id) (l := c) (by rw [List.map_id]; exact hno)
  have e : i = j := e
  subst e
  obtain ⟨y, w1, h1, h2⟩ := way_split (l := a ++ (i :: b)) h
  obtain ⟨z, w2, h3, h4⟩ := way_split (l := a) h1
  have hz := way_start h4
  have hy := way_start h2
  have hyz : z = y := by rw [← hz, ← hy]
  subst hyz
  have hn1 := hmin (i :: b) z (w1 - w2) h4
  have hn2 := hmin (a ++ i :: d) x (w2 + (w - w1)) (way_append h3 h2)
  simp only [List.length_append, List.length_cons] at hn1 hn2
  by_cases hneg : w1 - w2 < 0
  · have := hn1 hneg; omega
  · have := hn2 (by omega); omega
theorem susp_list {n : Int} {L : List Lk} {k : Nat} (h : EA n L k) (hc : (check n L).1 = 0) (hno : ¬ ∃ σ, Sol L [] σ) {c : List Nat} (hcl : clash n.toNat L [] = some (some c)) :
    ∃ s, sortI (ints c) = ints s ∧ (∀ i ∈ s, i < L.length) ∧ s.length ≤ 1000 ∧ s.filter (susp n.toNat L k) = (List.range L.length).filter fun i => cons n.toNat L ((none' L.length).set i true) k := by
  obtain ⟨n1, n2, n3, hok⟩ := check_ok hc
  have hok' : ∀ j, j < L.length → okLk n.toNat (L.getD j noLk) = true := by rw [show ((n.toNat : Nat) : Int) = n by omega]; exact hok
  obtain ⟨c', e1, ⟨x, w, hw, hw0⟩, _, hln, hmin⟩ := clash_ex (n := n.toNat) (by omega) hok' hno
  rw [hcl] at e1
  have e1 := Option.some.inj (Option.some.inj e1)
  subst e1
  have hnd := clash_nodup hw hw0 hmin
  have hall := way_all hw
  have hperm := List.mergeSort_perm c fun a b => decide (a ≤ b)
  refine ⟨c.mergeSort fun a b => decide (a ≤ b), ?_, fun i hi => hall i (hperm.mem_iff.1 hi), by rw [hperm.length_eq]; omega, ?_⟩
  · unfold sortI ints
    exact (List.map_mergeSort (fun a _ b _ => by simp)).symm
  · have hsort : (c.mergeSort fun a b => decide (a ≤ b)).Pairwise fun a b => a ≤ b := by
      have := List.pairwise_mergeSort (le := fun a b : Nat => decide (a ≤ b)) (fun a b c h1 h2 => by simp at *; omega) (fun a b => by simp; omega) c
      exact this.imp fun h => by simpa using h
    have hsu : ∀ i, i < L.length → susp n.toNat L k i = cons n.toNat L ((none' L.length).set i true) k := fun i hi => by
      unfold susp
      cases ht : twin (none' L.length) i (L.getD i noLk) L 0
      · simp
      · cases hk : cons n.toNat L ((none' L.length).set i true) k
        · rfl
        · obtain ⟨σ, hs⟩ := ((h.e hc _).2).1 hk
          exact absurd ⟨σ, twin_sol hi ht hs⟩ hno
    have hin : ∀ i, i < L.length → cons n.toNat L ((none' L.length).set i true) k = true → i ∈ c := fun i hi hk => Classical.byContradiction fun hic => by
      obtain ⟨σ, hs⟩ := ((h.e hc _).2).1 hk
      have hwd := way_drop (D := (none' L.length).set i true) hw fun q hq => by
        rw [set_true_ne (fun e => hic (by rw [← e]; exact hq))]
        exact none_get _ _
      have := sol_no_neg hok' hs hwd
      omega
    refine List.Perm.eq_of_pairwise (le := fun a b => a ≤ b) (fun a b _ _ h1 h2 => by omega) (hsort.filter _) ((List.pairwise_lt_range.imp (fun h => Nat.le_of_lt h)).filter _) ?_
    refine (List.perm_ext_iff_of_nodup ((hperm.nodup_iff.2 hnd).filter _) (List.nodup_range.filter _)).2 fun i => ?_
    rw [List.mem_filter, List.mem_filter, hperm.mem_iff, List.mem_range]
    constructor
    · rintro ⟨h1, h2⟩
      have hi := hall i h1
      exact ⟨hi, by rw [← hsu i hi]; exact h2⟩
    · rintro ⟨hi, h2⟩
      exact ⟨hin i hi h2, by rw [hsu i hi]; exact h2⟩
/-- the first j links without which there is a solution -/
def suK (n : Nat) (L : List Lk) (k j : Nat) : List Nat := (List.range j).filter fun i => cons n L ((none' L.length).set i true) k
theorem suK_hit {n : Nat} {L : List Lk} {k j : Nat} (h : cons n L ((none' L.length).set j true) k = true) : suK n L k (j + 1) = suK n L k j ++ [j] := by
  unfold suK
  rw [List.range_succ, List.filter_append, List.filter_cons, h]
  simp
theorem suK_miss {n : Nat} {L : List Lk} {k j : Nat} (h : cons n L ((none' L.length).set j true) k = false) : suK n L k (j + 1) = suK n L k j := by
  unfold suK
  rw [List.range_succ, List.filter_append, List.filter_cons, h]
  simp
theorem suK_len (n : Nat) (L : List Lk) (k j : Nat) : (suK n L k j).length ≤ j := by
  unfold suK
  have := List.length_filter_le (fun i => cons n L ((none' L.length).set i true) k) (List.range j)
  simpa using this
end Ch

/- What the laws share: two lists of one's own, being gathered. -/
namespace Go.Proofs.Ytkcchangkhklcaa
open Go.RowKit

/-- two lists of one's own -/
structure LP (w W : World) (cv dv : Value) (us ds : List Int) : Prop where
  o1 : W.ownsRow w.heap.size 3 1 cv us.length (us.map iV)
  o2 : W.ownsRow w.heap.size 3 1 dv ds.length (ds.map iV)
  ne : ∀ g, cv.ownBlock = some g → dv.ownBlock = some g → False
  b : Below w.heap.size w W
theorem owns_lt {W : World} {base n size : Nat} {e : TypeId} {v : Value} {xs : List Value} (h : W.ownsRow base e size v n xs) {g : Nat} (hg : v.ownBlock = some g) : g < W.heap.size := by
  rcases h.2 with ⟨rfl, _⟩ | ⟨g', cap, cur, rfl, _, hgb, _⟩
  · cases hg
  · obtain rfl : g' = g := by simpa [Value.ownBlock] using hg
    exact (Array.getElem?_eq_some_iff.1 hgb).1
theorem LP.swap {w W : World} {cv dv : Value} {us ds : List Int} (h : LP w W cv dv us ds) : LP w W dv cv ds us := ⟨h.o2, h.o1, fun g h1 h2 => h.ne g h2 h1, h.b⟩
theorem LP.push {w W W' : World} {cv dv cv' : Value} {us ds : List Int} {z : Int} (o : Obj) (h : LP w W cv dv us ds) (hown : W'.ownsRow w.heap.size 3 1 cv' (us.length + 1) (us.map iV ++ [.int .i64 z])) (hg0 : (W.alloc o).drew.grownBy W' cv.ownBlock) {g : Nat} (hv : cv'.ownBlock = some g) (hat : cv.ownBlock = some g ∨ g = W.heap.size + 1) : LP w W' cv' dv (us ++ [z]) ds := by
  have hg : (W.alloc o).grownBy W' cv.ownBlock := ⟨hg0.os, hg0.tape, hg0.output, hg0.size, hg0.block⟩
  refine ⟨?_, ?_, ?_, below_grown (h.b.alloc h.b.size o) (h.o1.alloc o) hg⟩
  · rw [List.length_append, List.map_append]; exact hown
  · refine (h.o2.alloc o).kept hg ?_
    rcases h.o2.2 with ⟨rfl, _⟩ | ⟨g', cap, cur, rfl, _, _, _⟩
    · exact .inl rfl
    · refine .inr fun e' => ?_
      exact h.ne g' (by simpa [Value.ownBlock] using e'.symm) rfl
  · intro k h1 h2
    rw [hv] at h1
    obtain rfl := Option.some.inj h1
    rcases hat with e | e
    · exact h.ne _ e h2
    · have := owns_lt h.o2 h2; omega
theorem LP.drew {w W : World} {cv dv : Value} {us ds : List Int} (h : LP w W cv dv us ds) : LP w W.drew cv dv us ds := ⟨h.o1.drew, h.o2.drew, h.ne, h.b.drew⟩

theorem ints_of_ownZ {W : World} {B : Nat} {v : Value} {l : List Int} (h : W.ownsRow B 3 1 v l.length (l.map iV)) : ∃ p cp, v = .slice p l.length cp ∧ IntsAt W p l := by
  rcases h.2 with ⟨hv, h0⟩ | ⟨g, cap, cur, hv, _, hgb, _, _, _, ht⟩
  · exact ⟨none, 0, by rw [hv, h0], fun k hk => by omega⟩
  · refine ⟨_, cap, hv, fun k hk => ⟨_, rfl, ?_⟩⟩
    have e : (⟨g, 0, none⟩ : Addr).add k = ⟨g, k, none⟩ := by unfold Addr.add; split <;> simp_all
    have hu : (l.map iV)[k]? = some (.int .i64 (l.getD k 0)) := by
      rw [List.getElem?_map, List.getD, List.getElem?_eq_getElem hk]; rfl
    rw [← ht, List.getElem?_take_of_lt (by omega), Array.getElem?_toList] at hu
    rw [e]
    simp [World.cell?, hgb, hu]
theorem lat_keep {w W W' : World} {cv : Value} {p q : Addr} {x y : Value} (hS : W.cell? p = some x ∧ W.cell? q = some y) (hg : W.grownBy W' cv.ownBlock) (hf : ∀ g, cv.ownBlock = some g → w.heap.size ≤ g) (hp : p.block < w.heap.size) (hq : q.block < w.heap.size) : W'.cell? p = some x ∧ W'.cell? q = some y :=
  ⟨(World.cell?_of_block (hg.block _ (block_lt_of_cell hS.1) (fun e => by have := hf _ e.symm; omega))).trans hS.1, (World.cell?_of_block (hg.block _ (block_lt_of_cell hS.2) (fun e => by have := hf _ e.symm; omega))).trans hS.2⟩

end Go.Proofs.Ytkcchangkhklcaa
