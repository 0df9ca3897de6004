/- What the claims of layer 2 share, part 5: several texts one behind the other. -/
import Derived.Laws.CopyOwn
import Derived.Deep.RegionLaw
import Derived.BigQuiet
import Derived.StillTailTactics
import Derived.BigRegion
import Derived.Test.YtemacokojdeimaaGreatDoorZ04
set_option linter.unusedSimpArgs false
set_option linter.unusedVariables false
/- Contracts of package chain: slices.Repeat of one number, unbound, boundsTo. -/
namespace Go.Proofs.YtemacokojdeimaaGreatDoor
open Go.RowKit

/-- z laid n times, the rest 0 -/
def rep (z : Int) (n c : Nat) : List Value := List.replicate n (.int .i64 z) ++ List.replicate (c - n) (.int .i64 0)
theorem rep_len {z : Int} {n c : Nat} (hnc : n ≤ c) : (rep z n c).length = c := by simp [rep]; omega
theorem rep_splice {z : Int} {n k c : Nat} (h : n + k ≤ c) : splice (rep z n c) n (List.replicate k (.int .i64 z)) = rep z (n + k) c := by
  have e1 : (rep z n c).take n = List.replicate n (.int .i64 z) := by unfold rep; rw [List.take_append_of_le_length (by simp), List.take_of_length_le (by simp)]
  have e2 : (rep z n c).drop (n + k) = List.replicate (c - (n + k)) (.int .i64 0) := by
    unfold rep
    rw [List.drop_append, List.drop_of_length_le (by simp), List.nil_append, List.drop_replicate]
    congr 1
    simp
    omega
  unfold splice
  rw [List.length_replicate, e1, e2, ← List.append_assoc, List.replicate_append_replicate]
  rfl
theorem rep_get {z : Int} {n c i : Nat} (h : i < n) : (rep z n c)[i]? = some (.int .i64 z) := by
  unfold rep
  rw [List.getElem?_append_left (by simpa using h), List.getElem?_replicate, if_pos h]
theorem rep_zero (z : Int) (c : Nat) : rep z 0 c = List.replicate c (.int .i64 0) := by simp [rep]

theorem rep_made (w : World) (z : Int) (c : Nat) : (w.alloc (Obj.cells (madeCells #[.int .i64 0] c) 3)).heap[w.heap.size]? = some (.cells (rep z 0 c).toArray 3 (0, 0)) := by
  obtain ⟨cur, hg, hs, hc⟩ := World.rowIs_made w (.int .i64 0) c 3
  rw [hg]
  have e : cur = (rep z 0 c).toArray := by
    rw [rep_zero]
    refine Array.ext (by simp [hs]) fun i h1 h2 => ?_
    have := hc i (by omega)
    rw [Array.getElem?_eq_getElem h1] at this
    simpa using this
  rw [e]

/-- what Repeat leaves -/
def RepPost (w : World) (c : Nat) (z : Int) (e : Ending) (w' : World) : Prop :=
  ∃ sb, w.heap.size ≤ sb ∧ e = .returned (.slice (some ⟨sb, 0, none⟩) c c) ∧ w'.rowIs sb 3 c (fun _ => .int .i64 z) ∧ Below w.heap.size w w'

theorem rep_end {W : World} {sb c : Nat} {z : Int} (h : W.heap[sb]? = some (.cells (rep z c c).toArray 3 (0, 0))) : W.rowIs sb 3 c (fun _ => .int .i64 z) := by
  refine ⟨_, h, by simp [rep_len], fun i hi => ?_⟩
  rw [List.getElem?_toArray]
  exact rep_get hi

theorem rep_cell {W : World} {sb k c q j : Nat} {z : Int} {v : Value} (hg : W.heap[sb]? = some (.cells (rep z k c).toArray 3 (0, 0))) (hq : q ≤ k) (h : (List.replicate q (Value.int .i64 z))[j]? = some v) : W.cell? ((⟨sb, 0, none⟩ : Addr).add j) = some v := by
  rw [List.getElem?_replicate] at h
  split at h
  · rename_i hj
    cases h
    have e : (⟨sb, 0, none⟩ : Addr).add j = ⟨sb, j, none⟩ := by unfold Addr.add; split <;> simp_all
    rw [e]
    simp [World.cell?, hg]
    exact rep_get (by omega)
  · cases h

set_option maxRecDepth 100000 in
set_option maxHeartbeats 2000000 in
theorem repeat_any (c : Nat) (c1 : 1 ≤ c) (c2 : c ≤ 60) (z : Int) (xb : Nat) (w : World) (hx : w.cell? ⟨xb, 0, none⟩ = some (.int .i64 z)) :
    Calls Tryz.prog 77 #[.slice (some ⟨xb, 0, none⟩) 1 1, .int .i64 c] w (RepPost w c z) := by
  obtain ⟨i0, hi, hz0, hz1, hz2⟩ := info_parts infoInt
  have hmk := run_make_row' (P := Tryz.prog) 41 3 (.int .i64 0) 8 Tryz.underlying41 infoInt rfl .i64 .i64 c (by omega) (by omega)
  have HM : Hid (∀ W, Calls Tryz.prog 91 #[.int .u64 1, .int .u64 c] W fun e w' => e = .returned (.tuple #[.int .u64 0, .int .u64 (c : Int)]) ∧ w' = W) := Lib.hid fun W => by
    have h := Tryz.bits_Mul 1 c (by omega) (by omega) W
    rw [Nat.one_mul, Nat.div_eq_of_lt (by omega), Nat.mod_eq_of_lt (by omega)] at h
    exact h
  have hc0 : ¬ (c : Int) < 0 := by omega
  go_enter Tryz.func77, Tryz.ntmps77
  go_wp2_with fail
  refine (HM.out _).mono ?_
  rintro e w1 ⟨rfl, hw⟩
  subst hw
  clear HM
  have hc9 : decide ((9223372036854775807 : Int) < (c : Int)) = false := decide_eq_false (by omega)
  have hsz : (Tryz.prog.info? 3).map (·.size) = some 1 := by rw [hi]; simp [hz1]
  have hg := rep_made w1 z c
  have hX : (w1.alloc (Obj.cells (madeCells #[.int .i64 0] c) 3)).cell? ⟨xb, 0, none⟩ = some (.int .i64 z) := cell_alloc hx _
  have hB : Below w1.heap.size w1 (w1.alloc (Obj.cells (madeCells #[.int .i64 0] c) 3)) := below_alloc (Below.refl _ _) _
  have hn1 : (List.replicate 1 (Value.int .i64 z)).length = Nat.min 1 c := by rw [List.length_replicate]; exact (Nat.min_eq_left c1).symm
  have hs1 : ∀ (j : Nat) (v : Value), (List.replicate 1 (Value.int .i64 z))[j]? = some v → (w1.alloc (Obj.cells (madeCells #[.int .i64 0] c) 3)).cell? ((⟨xb, 0, none⟩ : Addr).add j) = some v := by
    intro j v h
    have hj : j = 0 := by rcases j with _ | j; · rfl
                          · simp at h
    subst hj
    simp at h
    subst h
    exact hX
  have ho1 : ∀ v ∈ List.replicate 1 (Value.int .i64 z), v.oneCell' = true := by intro v hv; obtain rfl := List.eq_of_mem_replicate hv; rfl
  generalize hgX : w1.alloc (Obj.cells (madeCells #[.int .i64 0] c) 3) = X at *
  go_wp2_with (refine wpList_copy_splice rfl (.tmp 31) (.tmp 32) 41 41 rfl 3 Tryz.underlying41 hsz (some ⟨w1.heap.size, 0, none⟩) (some ⟨xb, 0, none⟩) c c 1 1 (by simp [Act.eval]) (by simp [Act.eval]) w1.heap.size 0 (rep z 0 c) 3 hg (List.replicate 1 (.int .i64 z)) hn1 (fun _ => ⟨rfl, _, rfl, hs1⟩) (by rw [rep_len (by omega)]; simpa using c1) ho1 w1.heap.size w1 hB (Nat.le_refl _) ?_; intro w2 hg2 hB2)
  rw [rep_splice (by omega)] at hg2
  clear hg hX hB hs1 hn1 ho1 hgX hmk
  clear X
  go_loopw [8] (fun i wr => ∃ k : Nat, 1 ≤ k ∧ k ≤ c ∧ i = .int .i64 k ∧ Hid (wr.heap[w1.heap.size]? = some (.cells (rep z k c).toArray 3 (0, 0))) ∧ Hid (Below w1.heap.size w1 wr)) (fun i _ => c - (RowKit.intOf i).toNat)
  case atStart => exact ⟨1, Nat.le_refl _, c1, rfl, by simpa using hg2, Lib.hid hB2⟩
  case round =>
    obtain ⟨k, k1, k2, rfl, hgk, hBk⟩ := hrel
    clear hg2 hB2
    by_cases hlt : k < c
    · have hi5 : (k : Int) < (c : Int) := by omega
      obtain ⟨q, hq⟩ : ∃ q, q = min k (c - k) := ⟨_, rfl⟩
      have hcs : (List.replicate q (Value.int .i64 z)).length = Nat.min k (c - k) := by rw [List.length_replicate, hq]
      have ho1 : ∀ v ∈ List.replicate q (Value.int .i64 z), v.oneCell' = true := by intro v hv; obtain rfl := List.eq_of_mem_replicate hv; rfl
      have hs1 : ∀ (j : Nat) (v : Value), (List.replicate q (Value.int .i64 z))[j]? = some v → wr.cell? ((⟨w1.heap.size, 0, none⟩ : Addr).add j) = some v := fun j v h => rep_cell hgk.out (by omega) h
      have hfit : k + (List.replicate q (Value.int .i64 z)).length ≤ (rep z k c).length := by rw [rep_len (by omega), List.length_replicate, hq]; omega
      replace hcs := Lib.hid hcs
      have hck : ¬ c = k := by omega
      have q1 : 1 ≤ q := by omega
      have q2 : k + q ≤ c := by omega
      clear hq
      replace hfit := Lib.hid hfit
      go_upto_region 9 with fail
      go_region_law (refine step_copy_splice rfl (.tmp 41) (.tmp 44) 41 41 rfl 3 Tryz.underlying41 hsz (some ⟨w1.heap.size, k, none⟩) (some ⟨w1.heap.size, 0, none⟩) (c - k) (c - k) k c (by simp [Act.eval, Act.put]) (by simp [Act.eval, Act.put]) w1.heap.size k (rep z k c) 3 hgk.out (List.replicate q (.int .i64 z)) hcs.out (fun _ => ⟨rfl, _, rfl, hs1⟩) hfit.out ho1 w1.heap.size w1 hBk.out.drew (Nat.le_refl _) ?_; intro w4 hg4 hb4)
      rw [rep_splice q2] at hg4
      go_simp
      have hkq : IntKind.i64.wrap ((k : Int) + (q : Int)) = ((k + q : Nat) : Int) := by rw [wrap_ok (by omega) (by omega)]; simp
      refine ⟨⟨_, _, _, _, _, _, _, _, _, _, _, _, _, _, ⟨k + q, Nat.le_trans k1 (Nat.le_add_right _ _), q2, by rw [hkq], hg4, Lib.hid hb4⟩, rfl⟩, ?_⟩
      show c - (RowKit.intOf (.int .i64 (IntKind.i64.wrap ((k : Int) + (q : Int))))).toNat < c - (RowKit.intOf (.int .i64 (k : Int))).toNat
      rw [hkq]
      show c - ((k + q : Nat) : Int).toNat < c - (k : Int).toNat
      omega
    · obtain rfl : k = c := by omega
      have hi5 : ¬ (k : Int) < (k : Int) := by omega
      go_wp2
      go_ret
      exact ⟨w1.heap.size, Nat.le_refl _, rfl, rep_end hgk.out, hBk.out⟩

/-- unbound -/
theorem unbound_any (n gb : Nat) (n1 : 1 ≤ n) (n2 : n ≤ 60) (w : World) (g0 : w.cell? ⟨gb, 0, none⟩ = some (.int .i64 n)) :
    Calls Tryz.prog 57 #[.pointer (some ⟨gb, 0, none⟩)] w (RepPost w n 1152921504606846976) := by
  have HR := Lib.hid (repeat_any n n1 n2 1152921504606846976 w.heap.size (w.alloc (Obj.cells #[.int .i64 1152921504606846976] 3)) (by simp [go_sem]))
  have g1 := cell_alloc g0 (Obj.cells #[.int .i64 1152921504606846976] 3)
  go_enter Tryz.func57, Tryz.ntmps57
  go_wp2_with fail
  refine HR.out.mono ?_
  rintro e w1 ⟨sb, h1, rfl, hr, hb⟩
  have h2 : w.heap.size ≤ sb := by simp at h1; omega
  have hB : Below w.heap.size w w1 := (below_alloc (Below.refl _ _) _).trans (hb.mono (by simp))
  replace hr := Lib.hid hr
  clear hb HR
  go_wp2
  go_ret
  exact ⟨sb, h2, rfl, hr.out, hB⟩

/-- what boundsTo leaves -/
def BtPost (w : World) (n : Nat) (R : Option (List Int)) (e : Ending) (w' : World) : Prop :=
  ∃ sb, w.heap.size ≤ sb ∧ Below w.heap.size w w' ∧ e = .returned (.slice (some ⟨sb, 0, none⟩) n n) ∧ ∀ s, R = some s → ∃ f, w'.rowIs sb 3 n f ∧ ∀ i, i < n → f i = .int .i64 (s.getD i 0)

theorem un_get {n v i : Nat} (hi : i < n) : ((Ch.unbound n).set v 0).getD i 0 = if i = v then 0 else 1152921504606846976 := by
  unfold Ch.unbound
  rw [List.getD, List.getElem?_set, List.length_replicate]
  by_cases e : v = i
  · rw [if_pos e, if_pos (by omega), if_pos e.symm]; rfl
  · rw [if_neg e, if_neg (by omega), List.getElem?_replicate, if_pos hi]; rfl

set_option maxRecDepth 100000 in
set_option maxHeartbeats 1000000 in
theorem boundsTo_any (n gb : Nat) (n1 : 1 ≤ n) (n2 : n ≤ 60) (v : Nat) (hv : v < n) (L : List Ch.Lk) (drop : List Bool) (fuel : Nat) (R : Option (List Int)) (hR : Hid (Ch.boundsTo n L drop fuel v = some R)) (H ib db m : Nat) (a : Option Addr) (cap0 : Nat) (V : Nat → Value) (w : World) (G : Hid (Gr w H gb ib db n m a cap0 V L (fun i => drop.getD i false))) :
    Calls Tryz.prog 33 #[.pointer (some ⟨gb, 0, none⟩), .int .i64 v] w (BtPost w n R) := by
  have HU := Lib.hid (unbound_any n gb n1 n2 w (G.out.g.cell (i := 0) (by omega)))
  have hHw := G.out.hH
  go_enter Tryz.func33, Tryz.ntmps33
  go_wp2_with fail
  refine HU.out.mono ?_
  rintro e w1 ⟨sb, h1, rfl, hr, hB⟩
  have hc := hr.cell (i := v) hv
  have hfz := hr.frozen v
  have r2 := Lib.hid (hr.set v (.int .i64 0))
  have hv1 : (v : Int) < (n : Int) := by omega
  clear HU hr
  go_wp2_with fail
  refine (settle_any n gb sb n n n1 n2 (Nat.le_refl _) ((Ch.unbound n).set v 0) (Lib.hid (by simp [Ch.unbound])) L drop fuel R hR H ib db m a cap0 V (by omega) _ (Lib.hid (G.out.below ((hB.mono hHw).setCell (by simp; omega) _))) _ r2 (Lib.hid fun i hi => by rw [un_get hi]; split <;> rfl) (Lib.hid fun i hi => by rw [un_get hi]; split <;> omega)).mono ?_
  rintro e w2 h
  obtain ⟨hb, rfl, hr⟩ := set_none h
  have hB2 : Below w.heap.size w w2 := (hB.setCell (by simp; omega) _).trans (hb.below (B := w.heap.size) (by simp; exact hB.size) (fun k hk => by omega))
  clear hb h hB r2
  replace hr := Lib.hid hr
  go_wp2
  go_ret
  exact ⟨sb, h1, hB2, rfl, hr.out⟩
end Go.Proofs.YtemacokojdeimaaGreatDoor

/- Contracts of package chain: open. -/
namespace Go.Proofs.YtemacokojdeimaaGreatDoor
open Go.RowKit

/-- what newGraph leaves is a graph -/
theorem gr_of_ng {w w' : World} {n m : Nat} {a : Option Addr} {cap gb ib db : Nat} {V : Nat → Value} {L : List Ch.Lk} (hm : L.length = m) (m3 : m ≤ 300) (ok : ∀ j, j < L.length → Ch.okLk n (L.getD j Ch.noLk) = true) (hg : w'.rowIs gb 78 4 (gF n a m cap ib db)) (hi : IntoAt w' w.heap.size ib n V (Ch.into L)) (hd : w'.rowIs db 4 m (fun _ => .bool false)) (hL : LksAt w' a L) :
    Gr w' w'.heap.size gb ib db n m a cap V L (fun i => ([] : List Bool).getD i false) := by
  refine ⟨hm, m3, ok, hg, hi.row, hd, fun u hu => ?_, fun k hk => ?_, hg.lt, hi.row.lt, hd.lt, Nat.le_refl _⟩
  · have ho := hi.own u hu
    by_cases h0 : (Ch.into L u).length = 0
    · obtain ⟨_, h2⟩ := ho
      rcases h2 with ⟨h3, h4⟩ | ⟨g, cp, cur, h3, _⟩
      · exact ⟨none, 0, by rw [h3, h0], fun k hk => by omega⟩
      · exact ⟨some ⟨g, 0, none⟩, cp, h3, fun k hk => by omega⟩
    · obtain ⟨g, cp, f, h1, _, h3, _, h5, h6⟩ := owns_row ho (by omega)
      refine ⟨some ⟨g, 0, none⟩, cp, h1, fun k hk => ⟨⟨g, 0, none⟩, rfl, h5.lt, ?_⟩⟩
      have e : (⟨g, 0, none⟩ : Addr).add k = ⟨g, k, none⟩ := by unfold Addr.add; split <;> simp_all
      rw [e, h5.cell (i := k) (by omega)]
      have h7 := h6 k hk
      rw [List.getElem?_map, List.getElem?_eq_getElem hk] at h7
      rw [List.getD, List.getElem?_eq_getElem hk]
      simpa using h7.symm
  · obtain ⟨x, hx, h1⟩ := hL k hk
    have e : (x.add (k * 3)).block = x.block := by unfold Addr.add; split <;> rfl
    exact ⟨x, hx, by rw [← e]; exact block_lt_of_cell h1.1, h1⟩

/-- the marks of the links that are left out lie apart -/
structure Ap (gb ib db n m : Nat) (a : Option Addr) (V : Nat → Value) : Prop where
  g : gb ≠ db
  i : ib ≠ db
  v : ∀ u, u < n → ∀ x l c, V u = .slice (some x) l c → x.block ≠ db
  l : ∀ x, a = some x → 0 < m → x.block ≠ db

theorem ap_of_ng {w w' : World} {n m : Nat} {a : Option Addr} {cap gb ib db : Nat} {V : Nat → Value} {L : List Ch.Lk} (hm : L.length = m) (hg : w'.rowIs gb 78 4 (gF n a m cap ib db)) (hi : IntoAt w' w.heap.size ib n V (Ch.into L)) (hd : w'.rowIs db 4 m (fun _ => .bool false)) (hL : LksAt w a L) (hdb : w.heap.size ≤ db) : Ap gb ib db n m a V := by
  obtain ⟨cd, d1, _⟩ := hd
  refine ⟨fun e => ?_, fun e => ?_, fun u hu x l c hV e => ?_, fun x hx h0 e => ?_⟩
  · obtain ⟨_, h1, _⟩ := hg
    rw [e, d1] at h1
    cases h1
  · obtain ⟨_, h1, _⟩ := hi.row
    rw [e, d1] at h1
    cases h1
  · obtain ⟨_, h2⟩ := hi.own u hu
    rcases h2 with ⟨h3, _⟩ | ⟨g, cp, cur, h3, _, h4, _⟩
    · rw [h3] at hV; cases hV
    · rw [h3] at hV
      cases hV
      rw [show g = db from e, d1] at h4
      cases h4
  · obtain ⟨y, hy, h1⟩ := hL 0 (by omega)
    rw [hx] at hy
    obtain rfl := Option.some.inj hy
    have h2 := block_lt_of_cell h1.1
    have e2 : (x.add (0 * 3)).block = x.block := by unfold Addr.add; split <;> rfl
    rw [e2] at h2
    omega
theorem Gr.high {w : World} {H gb ib db n m : Nat} {a : Option Addr} {cap : Nat} {V : Nat → Value} {L : List Ch.Lk} {D : Nat → Bool} (h : Gr w H gb ib db n m a cap V L D) : Gr w w.heap.size gb ib db n m a cap V L D := by
  refine ⟨h.hm, h.m3, h.ok, h.g, h.i, h.d, fun u hu => ?_, fun k hk => ?_, Nat.lt_of_lt_of_le h.hg h.hH, Nat.lt_of_lt_of_le h.hi h.hH, Nat.lt_of_lt_of_le h.hd h.hH, Nat.le_refl _⟩
  · obtain ⟨av, cr, h1, h2⟩ := h.v u hu
    exact ⟨av, cr, h1, fun k hk => by
      obtain ⟨x, hx, hlt, hcx⟩ := h2 k hk
      exact ⟨x, hx, Nat.lt_of_lt_of_le hlt h.hH, hcx⟩⟩
  · obtain ⟨x, hx, hlt, h1⟩ := h.l k hk
    exact ⟨x, hx, Nat.lt_of_lt_of_le hlt h.hH, h1⟩

/-- what open leaves -/
def OpPost (w : World) (n : Nat) (a : Option Addr) (m cap : Nat) (L : List Ch.Lk) (ec : Int) (e : Ending) (w' : World) : Prop :=
  Below w.heap.size w w' ∧ ((ec ≠ 0 ∧ e = .returned (.tuple #[.pointer none, .int .i64 ec])) ∨
    (ec = 0 ∧ ∃ gb ib db V, w.heap.size ≤ gb ∧ e = .returned (.tuple #[.pointer (some ⟨gb, 0, none⟩), .int .i64 0]) ∧ Gr w' w'.heap.size gb ib db n m a cap V L (fun i => ([] : List Bool).getD i false) ∧ Ap gb ib db n m a V ∧ w.heap.size ≤ db))

set_option maxRecDepth 100000 in
set_option maxHeartbeats 2000000 in
theorem open_bad (n : Int) (a : Option Addr) (m cap : Nat) (b : Option Addr) (q cap2 : Nat) (ec at1 : Int) (hec : ¬ ec = 0) (w : World) (HC : Hid (∀ W : World, Below w.heap.size w W → Calls Tryz.prog 25 #[.agg #[.int .i64 n, .slice a m cap]] W fun e w' => e = .returned (.tuple #[.int .i64 ec, .int .i64 at1]) ∧ Below W.heap.size W w')) :
    Calls Tryz.prog 32 #[.agg #[.int .i64 n, .slice a m cap], .slice b q cap2] w fun e w' => e = .returned (.tuple #[.pointer none, .int .i64 ec]) ∧ Below w.heap.size w w' := by
  go_enter Tryz.func32, Tryz.ntmps32
  go_wp2_with fail
  refine (HC.out _ (below_alloc (Below.refl _ _) _)).mono ?_
  rintro e w1 ⟨rfl, hb1⟩
  have hv1 : Below w.heap.size w w1 := bstep1 (Below.refl _ _) hb1
  clear hb1
  go_wp2
  go_ret2
  exact ⟨rfl, hv1⟩

set_option maxRecDepth 100000 in
set_option maxHeartbeats 2000000 in
theorem open_walk (n : Nat) (a : Option Addr) (m cap : Nat) (b : Option Addr) (q cap2 : Nat) (q9 : q ≤ 1000) (l : List Int) (hq : Hid (l.length = q)) (L : List Ch.Lk) (ec at1 : Int) (w : World) (hl : Hid (IntsAt w b l)) (HC : Hid (∀ W : World, Below w.heap.size w W → Calls Tryz.prog 25 #[.agg #[.int .i64 n, .slice a m cap]] W fun e w' => e = .returned (.tuple #[.int .i64 0, .int .i64 at1]) ∧ Below W.heap.size W w'))
    (HN : Hid (∀ W : World, Below w.heap.size w W → Calls Tryz.prog 42 #[.agg #[.int .i64 n, .slice a m cap]] W fun e w' => ∃ gb ib db V, w.heap.size ≤ gb ∧ e = .returned (.pointer (some ⟨gb, 0, none⟩)) ∧ Hid (Gr w' w'.heap.size gb ib db n m a cap V L (fun i => ([] : List Bool).getD i false)) ∧ Hid (Ap gb ib db n m a V ∧ w.heap.size ≤ db) ∧ Below W.heap.size W w'))
    (r : Bool) (HR : Hid (∀ (W : World) (H gb ib db : Nat) (V : Nat → Value), Gr W H gb ib db n m a cap V L (fun i => ([] : List Bool).getD i false) → Calls Tryz.prog 43 #[.pointer (some ⟨gb, 0, none⟩)] W fun e w' => e = .returned (.bool r) ∧ Below W.heap.size W w'))
    (hec : Hid ((if l.all (fun i => Ch.isIx i n) then if r then 0 else 9 else 1) = ec)) :
    Calls Tryz.prog 32 #[.agg #[.int .i64 n, .slice a m cap], .slice b q cap2] w (OpPost w n a m cap L ec) := by
  go_enter Tryz.func32, Tryz.ntmps32
  go_wp2_with fail
  refine (HC.out _ (below_alloc (Below.refl _ _) _)).mono ?_
  rintro e w1 ⟨rfl, hb1⟩
  have k0 : w1.cell? ⟨w.heap.size, 0, none⟩ = some (.int .i64 n) := kept1 (by simp [go_sem]) hb1
  have k1 : w1.cell? ⟨w.heap.size, 1, none⟩ = some (.slice a m cap) := kept1 (by simp [go_sem]) hb1
  have hv1 : Below w.heap.size w w1 := bstep1 (Below.refl _ _) hb1
  clear hb1 HC
  go_wp2
  go_loopw [21] (fun i wr => ∃ k : Nat, k ≤ q ∧ i = .int .i64 k ∧ wr = w1 ∧ Hid (l.all (fun i => Ch.isIx i n) = (l.drop k).all (fun i => Ch.isIx i n))) (fun i _ => q - (RowKit.intOf i).toNat)
  case atStart => exact ⟨0, Nat.zero_le _, rfl, rfl, Lib.hid rfl⟩
  case round =>
    obtain ⟨k, hk, rfl, rfl, hall⟩ := hrel
    by_cases hlt : k < q
    · obtain ⟨x, rfl, hcx⟩ := hl.out k (by have := hq.out; omega)
      have hst := Ch.all_at (p := fun i => Ch.isIx i n) (l := l) (k := k) (by have := hq.out; omega)
      obtain ⟨z, hz⟩ : ∃ z, l.getD k 0 = z := ⟨_, rfl⟩
      have hc := kept1 hcx hv1
      rw [hz] at hc hst
      clear hz hcx
      have hi5 : (k : Int) < (q : Int) := by omega
      have HV := isIndex_any z n
      cases hv : Ch.isIx z n
      · rw [hv] at HV hst
        replace HV := Lib.hid HV
        have h1 : ec = 1 := by
          have h := hec.out
          rw [hall.out, hst] at h
          simpa using h.symm
        subst h1
        clear hst hec
        go_wp2_with fail
        refine (HV.out _).mono ?_
        rintro e w2 ⟨rfl, hb2⟩
        subst hb2
        go_wp2
        go_ret2
        exact ⟨hv1, .inl ⟨by decide, rfl⟩⟩
      · rw [hv] at HV hst
        replace HV := Lib.hid HV
        replace hst := Lib.hid hst
        go_wp2_with fail
        refine (HV.out _).mono ?_
        rintro e w2 ⟨rfl, hb2⟩
        subst hb2
        go_wp2
        go_roundw
        case rel => exact ⟨k + 1, by omega, by go_num, by first | rfl | trivial, Lib.hid (by rw [hall.out, hst.out]; simp)⟩
        case measure => show q - ((k : Int) + 1).toNat < q - (k : Int).toNat; omega
    · obtain rfl : k = q := by omega
      have hi5 : ¬ (k : Int) < (k : Int) := by omega
      have hb9 : Hid ((if r then 0 else 9) = ec) := Lib.hid (by
        have h := hec.out
        rw [hall.out, List.drop_eq_nil_of_le (by have := hq.out; omega)] at h
        simpa using h)
      clear hall hec
      go_wp2_with fail
      refine (HN.out _ hv1).mono ?_
      rintro e w2 ⟨gb, ib, db, V, hge, rfl, hG, hA, hb2⟩
      go_wp2_with fail
      refine (HR.out _ _ _ _ _ _ hG.out).mono ?_
      rintro e w3 ⟨rfl, hb3⟩
      have hv3 : Below w.heap.size w w3 := hv1.trans ((hb2.trans (hb3.mono hb2.size)).mono hv1.size)
      have hG3 := Lib.hid (hG.out.below hb3)
      clear hb2 hb3 hG k0 k1 HR HN
      cases r
      · obtain rfl : 9 = ec := hb9.out
        go_wp2
        go_ret2
        exact ⟨hv3, .inl ⟨by decide, rfl⟩⟩
      · obtain rfl : 0 = ec := hb9.out
        go_wp2
        go_ret2
        exact ⟨hv3, .inr ⟨rfl, gb, ib, db, V, hge, rfl, hG3.out.high, hA.out.1, hA.out.2⟩⟩

/-- open -/
theorem open_any (n : Int) (a : Option Addr) (cap : Nat) (L : List Ch.Lk) (b : Option Addr) (cap2 : Nat) (l : List Int) (hl9 : l.length ≤ 1000) (fuel : Nat) (hE : (Ch.check n L).1 = 0 → Ch.enough n.toNat L [] fuel = true) (w : World) (hL : LksAt w a L) (hl : IntsAt w b l) :
    Calls Tryz.prog 32 #[sysV n a L.length cap, .slice b l.length cap2] w (OpPost w n.toNat a L.length cap L (Ch.opn n L l fuel)) := by
  have HC := Lib.hid fun (W : World) (hb : Below w.heap.size w W) => check_any n a cap L W (hL.below hb)
  unfold Ch.opn Ch.openE
  by_cases h : (Ch.check n L).1 = 0
  · rw [if_neg (by omega)]
    rw [h] at HC
    obtain ⟨n1, n2, hm, hok⟩ := Ch.check_ok h
    obtain ⟨N, rfl⟩ : ∃ N : Nat, n = (N : Int) := ⟨n.toNat, by omega⟩
    have hE2 := hE h
    rw [Int.toNat_natCast] at hE2 ⊢
    obtain ⟨R, hR2, hR3⟩ := Ch.enough_levels hE2
    rw [← hR3]
    refine open_walk N a _ cap b _ cap2 hl9 l (Lib.hid rfl) L _ _ w (Lib.hid hl) HC (Lib.hid fun W hb => ?_) R.isSome (Lib.hid fun W H gb ib db V G => consistent_any N gb (by omega) (by omega) L [] fuel R (Lib.hid hR2) H ib db _ a cap V W (Lib.hid G)) (Lib.hid rfl)
    refine (newGraph_any N (by omega) a cap L _ (Lib.hid rfl) hm (Lib.hid hok) W (Lib.hid (hL.below hb))).mono ?_
    rintro e w' ⟨gb, ib, db, V, rfl, h1, h2, h3, h4, h5, h6, h7⟩
    exact ⟨gb, ib, db, V, Nat.le_trans hb.size h4, rfl, Lib.hid (gr_of_ng (w := W) rfl hm hok h1 h2 h3 ((hL.below hb).below h7)), Lib.hid ⟨ap_of_ng (w := W) rfl h1 h2 h3 (hL.below hb) h6, Nat.le_trans hb.size h6⟩, h7⟩
  · rw [if_pos h]
    refine (open_bad n a _ cap b _ cap2 _ _ h w HC).mono ?_
    rintro e w' ⟨rfl, hb⟩
    exact ⟨hb, .inl ⟨h, rfl⟩⟩
end Go.Proofs.YtemacokojdeimaaGreatDoor

/- Contracts of package chain: opposites. -/
namespace Go.Proofs.YtemacokojdeimaaGreatDoor
open Go.RowKit

/-- numbers of which the first k have got the opposite sign -/
def oppF (f : Nat → Value) (l : List Int) (k : Nat) : Nat → Value := fun i => if i < k then .int .i64 (-(l.getD i 0)) else f i

theorem opp_step {W : World} {sb N k : Nat} {f : Nat → Value} {l : List Int} (h : W.rowIs sb 3 N (oppF f l k)) : (W.setCell ⟨sb, k, none⟩ (.int .i64 (-(l.getD k 0)))).rowIs sb 3 N (oppF f l (k + 1)) := by
  refine (h.set k _).congr (fun i _ => ?_)
  unfold oppF
  by_cases e : i = k
  · subst e; rw [if_pos rfl, if_pos (by omega)]
  · rw [if_neg e]
    by_cases e2 : i < k
    · rw [if_pos e2, if_pos (by omega)]
    · rw [if_neg e2, if_neg (by omega)]

/-- what opposites leaves -/
def OppPost (w : World) (sb N n cap : Nat) (f : Nat → Value) (l : List Int) (e : Ending) (w' : World) : Prop :=
  e = .returned (.slice (some ⟨sb, 0, none⟩) n cap) ∧ w'.rowIs sb 3 N (oppF f l n) ∧ But (fun k => k = sb) w w'

set_option maxRecDepth 100000 in
set_option maxHeartbeats 1000000 in
theorem opposites_any (sb N n cap : Nat) (hn : n ≤ 1000000) (hN : n ≤ N) (f : Nat → Value) (l : List Int) (hf : Hid (∀ i, i < n → f i = .int .i64 (l.getD i 0))) (hb : Hid (∀ i, i < n → -1152921504606846976 ≤ l.getD i 0 ∧ l.getD i 0 ≤ 1152921504606846976)) (w : World) (hr : Hid (w.rowIs sb 3 N f)) :
    Calls Tryz.prog 63 #[.slice (some ⟨sb, 0, none⟩) n cap] w (OppPost w sb N n cap f l) := by
  go_enter Tryz.func63, Tryz.ntmps63
  go_wp2
  go_loopw [6] (fun i wr => ∃ k : Nat, k ≤ n ∧ i = .int .i64 k ∧ Hid (wr.rowIs sb 3 N (oppF f l k)) ∧ Hid (But (fun k => k = sb) w wr)) (fun i _ => n - (RowKit.intOf i).toNat)
  case atStart => exact ⟨0, Nat.zero_le _, rfl, Lib.hid (hr.out.congr (fun i _ => by unfold oppF; rw [if_neg (by omega)])), Lib.hid (But.refl _ _)⟩
  case round =>
    obtain ⟨k, hk, rfl, hrow, hbt⟩ := hrel
    by_cases hlt : k < n
    · have hc := hrow.out.cell (i := k) (by omega)
      have hfz := hrow.out.frozen k
      have hv : oppF f l k k = .int .i64 (l.getD k 0) := by unfold oppF; rw [if_neg (by omega)]; exact hf.out k hlt
      rw [hv] at hc
      have hbk := hb.out k hlt
      have T := Lib.hid (opp_step hrow.out)
      obtain ⟨z, hz⟩ : ∃ z, l.getD k 0 = z := ⟨_, rfl⟩
      rw [hz] at hc hbk T
      clear hv hz
      obtain ⟨b1, b2⟩ := hbk
      have hi5 : (k : Int) < (n : Int) := by omega
      go_wp2
      go_roundw
      case rel => exact ⟨k + 1, by omega, by go_num, T, Lib.hid (hbt.out.setCell (p := ⟨sb, k, none⟩) (.inr rfl) _)⟩
      case measure => first | (simp [RowKit.intOf]; done) | (simp [RowKit.intOf]; omega) | omega
    · obtain rfl : k = n := by omega
      have hi5 : ¬ (k : Int) < (k : Int) := by omega
      go_wp2
      go_ret
      exact ⟨rfl, hrow.out, hbt.out⟩
end Go.Proofs.YtemacokojdeimaaGreatDoor

/- Contracts of package chain: Bound, leastValues. -/
namespace Go.Proofs.YtemacokojdeimaaGreatDoor
open Go.RowKit

theorem intsAt_two (w : World) (t : TypeId) (u v : Int) : IntsAt (w.alloc (Obj.cells #[.int .i64 u, .int .i64 v] t)) (some ⟨w.heap.size, 0, none⟩) [u, v] := by
  intro k hk
  refine ⟨_, rfl, ?_⟩
  have e : (⟨w.heap.size, 0, none⟩ : Addr).add k = ⟨w.heap.size, k, none⟩ := by unfold Addr.add; split <;> simp_all
  rw [e]
  match k, hk with
  | 0, _ => simp [go_sem]
  | 1, _ => simp [go_sem]

set_option maxRecDepth 100000 in
set_option maxHeartbeats 2000000 in
theorem bound_any (n : Int) (a : Option Addr) (cap : Nat) (L : List Ch.Lk) (u v : Int) (k : Nat) (hE : (Ch.check n L).1 = 0 → Ch.enough n.toNat L [] k = true) (w : World) (hL : LksAt w a L) :
    Calls Tryz.prog 14 #[sysV n a L.length cap, .int .i64 u, .int .i64 v] w fun e w' => e = .returned (.tuple #[.int .i64 (Ch.bound n L k u v).1, .int .i64 (Ch.bound n L k u v).2]) ∧ Below w.heap.size w w' := by
  have hB0 : Below w.heap.size w ((w.alloc (Obj.cells #[.int .i64 n, .slice a L.length cap] 24)).alloc (Obj.cells #[.int .i64 u, .int .i64 v] 3)) := below_alloc (below_alloc (Below.refl _ _) _) _
  have hI := intsAt_two (w.alloc (Obj.cells #[.int .i64 n, .slice a L.length cap] 24)) 3 u v
  have HO := open_any n a cap L (some ⟨w.heap.size + 1, 0, none⟩) 2 [u, v] (by simp) k hE _ (hL.below hB0) (by simpa using hI)
  obtain ⟨ec, hec⟩ : ∃ ec, Ch.opn n L [u, v] k = ec := ⟨_, rfl⟩
  have hok := Ch.opn_ok (n := n) (L := L) (l := [u, v]) (k := k)
  rw [hec] at HO hok
  obtain ⟨r1, r2, hrr⟩ : ∃ r1 r2, Ch.bound n L k u v = (r1, r2) := ⟨_, _, rfl⟩
  rw [hrr]
  unfold Ch.bound at hrr
  rw [hec] at hrr
  replace hrr := Lib.hid hrr
  have HO := Lib.hid HO
  replace hok := Lib.hid hok
  unfold sysV at *
  clear hI hec
  go_enter Tryz.func14, Tryz.ntmps14
  go_wp2_with fail
  refine HO.out.mono ?_
  rintro e w1 ⟨hb, h⟩
  have hB := hB0.trans (hb.mono (by simp; omega))
  clear hb hB0 HO
  rcases h with ⟨hne, rfl⟩ | ⟨rfl, gb, ib, db, V, hge, rfl, hG, hAp, hdb0⟩
  · have h := hrr.out
    rw [if_pos hne] at h
    obtain ⟨rfl, rfl⟩ := Prod.mk.inj h
    clear hrr h
    go_wp2
    go_ret2
    exact ⟨rfl, hB⟩
  · have hrr := hrr.out
    rw [if_neg (by simp)] at hrr
    obtain ⟨hc0, hall, hcon⟩ := hok.out rfl
    have hE2 := hE hc0
    obtain ⟨n1, n2, _⟩ := Ch.check_ok hc0
    obtain ⟨N, rfl⟩ : ∃ N : Nat, n = (N : Int) := ⟨n.toNat, by omega⟩
    simp [Ch.isIx] at hall
    obtain ⟨⟨u1, u2⟩, v1, v2⟩ := hall
    obtain ⟨p, rfl⟩ : ∃ p : Nat, u = (p : Int) := ⟨u.toNat, by omega⟩
    obtain ⟨q, rfl⟩ : ∃ q : Nat, v = (q : Int) := ⟨v.toNat, by omega⟩
    simp only [Int.toNat_natCast] at *
    obtain ⟨hbt, _, _⟩ := Ch.enough_bt hE2 hcon (v := q) (by omega)
    have HB := Lib.hid (boundsTo_any N gb (by omega) (by omega) q (by omega) L [] k _ (Lib.hid hbt) _ ib db _ a cap V w1 (Lib.hid hG))
    obtain ⟨S, hS⟩ : ∃ S, Ch.bt N L [] k q = S := ⟨_, rfl⟩
    rw [hS] at HB hrr
    clear hS hG hE2 hcon hc0 hok hE hbt
    obtain ⟨z, hz⟩ : ∃ z, S.getD p 0 = z := ⟨_, rfl⟩
    rw [hz] at hrr
    replace hrr := Lib.hid hrr
    replace hz := Lib.hid hz
    have p2 : (p : Int) < (N : Int) := by omega
    go_wp2_with fail
    refine HB.out.mono ?_
    rintro e w2 ⟨sb, hsb, hb, rfl, hr⟩
    obtain ⟨f, hr1, hr2⟩ := hr S rfl
    have hc := hr1.cell (i := p) (by omega)
    rw [hr2 p (by omega), hz.out] at hc
    have hB2 := hB.trans (hb.mono hB.size)
    clear hb hr hr1 hr2 HB
    by_cases h9 : z = 1152921504606846976
    · subst h9
      have h := hrr.out
      unfold Ch.free at h
      rw [if_pos rfl] at h
      obtain ⟨rfl, rfl⟩ := Prod.mk.inj h
      clear hrr h
      go_wp2
      go_ret2
      exact ⟨rfl, hB2⟩
    · have h := hrr.out
      unfold Ch.free at h
      rw [if_neg h9] at h
      obtain ⟨rfl, rfl⟩ := Prod.mk.inj h
      clear hrr h
      have h9' : (z == 1152921504606846976) = false := by rw [beq_eq_false_iff_ne]; exact h9
      go_wp2
      go_ret2
      exact ⟨rfl, hB2⟩

/-- what leastValues leaves: a list of its own, or an error -/
def LsPost (w : World) (n : Nat) (ec : Int) (S : List Int) (e : Ending) (w' : World) : Prop :=
  Below w.heap.size w w' ∧ ((ec ≠ 0 ∧ e = .returned (.tuple #[.slice none 0 0, .int .i64 ec])) ∨
    (ec = 0 ∧ ∃ sb f, w.heap.size ≤ sb ∧ e = .returned (.tuple #[.slice (some ⟨sb, 0, none⟩) n n, .int .i64 0]) ∧ w'.rowIs sb 3 n f ∧ ∀ i, i < n → f i = .int .i64 (S.getD i 0)))

theorem neg_get {s : List Int} {i : Nat} : (s.map fun z => -z).getD i 0 = -(s.getD i 0) := by
  rw [List.getD, List.getD, List.getElem?_map]
  cases s[i]? <;> simp

set_option maxRecDepth 100000 in
set_option maxHeartbeats 2000000 in
theorem least_any (n : Int) (a : Option Addr) (cap : Nat) (L : List Ch.Lk) (k : Nat) (hE : (Ch.check n L).1 = 0 → Ch.enough n.toNat L [] k = true) (w : World) (hL : LksAt w a L) :
    Calls Tryz.prog 36 #[sysV n a L.length cap] w (LsPost w n.toNat (Ch.opn n L [] k) (Ch.least n L k)) := by
  have hB0 : Below w.heap.size w (w.alloc (Obj.cells #[.int .i64 n, .slice a L.length cap] 24)) := below_alloc (Below.refl _ _) _
  have HO := open_any n a cap L none 0 [] (by simp) k hE _ (hL.below hB0) (fun k hk => absurd hk (by simp))
  obtain ⟨ec, hec⟩ : ∃ ec, Ch.opn n L [] k = ec := ⟨_, rfl⟩
  have hok := Ch.opn_ok (n := n) (L := L) (l := []) (k := k)
  rw [hec] at HO hok ⊢
  replace HO := Lib.hid HO
  replace hok := Lib.hid hok
  unfold sysV at *
  clear hec
  go_enter Tryz.func36, Tryz.ntmps36
  go_wp2_with fail
  refine HO.out.mono ?_
  rintro e w1 ⟨hb, h⟩
  have hB := hB0.trans (hb.mono (by simp))
  clear hb hB0 HO
  rcases h with ⟨hne, rfl⟩ | ⟨rfl, gb, ib, db, V, hge, rfl, hG, hAp, hdb0⟩
  · go_wp2
    go_ret2
    exact ⟨hB, .inl ⟨hne, rfl⟩⟩
  · obtain ⟨hc0, hall, hcon⟩ := hok.out rfl
    have hE2 := hE hc0
    obtain ⟨n1, n2, _⟩ := Ch.check_ok hc0
    obtain ⟨N, rfl⟩ : ∃ N : Nat, n = (N : Int) := ⟨n.toNat, by omega⟩
    simp only [Int.toNat_natCast] at *
    obtain ⟨hbt, hlen, hbd⟩ := Ch.enough_bt hE2 hcon (v := 0) (by omega)
    have HB := Lib.hid (boundsTo_any N gb (by omega) (by omega) 0 (by omega) L [] k _ (Lib.hid hbt) _ ib db _ a cap V w1 (Lib.hid hG))
    obtain ⟨S, hS⟩ : ∃ S, Ch.bt N L [] k 0 = S := ⟨_, rfl⟩
    rw [hS] at HB hbd hlen
    replace hbd := Lib.hid hbd
    replace hlen := Lib.hid hlen
    replace hS := Lib.hid hS
    clear hG hE2 hcon hc0 hok hE hbt hall
    go_wp2_with fail
    refine HB.out.mono ?_
    rintro e w2 ⟨sb, hsb, hb, rfl, hr⟩
    obtain ⟨f, hr1, hr2⟩ := hr S rfl
    have HP := Lib.hid (opposites_any sb N N N (by omega) (Nat.le_refl _) f S (Lib.hid hr2) hbd w2 (Lib.hid hr1))
    have hB2 := hB.trans (hb.mono hB.size)
    have hsz := Nat.le_trans hB.size hsb
    clear hb hr hr1 hr2 HB
    go_wp2_with fail
    refine HP.out.mono ?_
    rintro e w3 ⟨rfl, hr, hb⟩
    have hB3 := hB2.trans (hb.below (B := w.heap.size) hB2.size (fun k hk => by omega))
    clear hb HP
    go_wp2
    go_ret2
    refine ⟨hB3, .inr ⟨rfl, sb, _, hsz, rfl, hr, fun i hi => ?_⟩⟩
    unfold Ch.least oppF
    rw [Int.toNat_natCast, hS.out, neg_get, if_pos hi]
end Go.Proofs.YtemacokojdeimaaGreatDoor

/- Contracts of package chain: lengthen. -/
namespace Go.Proofs.YtemacokojdeimaaGreatDoor
open Go.RowKit
attribute [local go_sem] Oper.semAt_some

/-- the world in lengthen -/
structure LE (w : World) (lb c5 n : Nat) (acc : List Int) (rs : List Nat) (W : World) : Prop where
  row : ∃ f, W.rowIs lb 3 n f ∧ ∀ i, i < n → f i = .int .i64 (acc.getD i 0)
  box : W.rowIs c5 41 1 (fun _ => .slice (some ⟨lb, 0, none⟩) n n)
  bt : Below w.heap.size w W
  l0 : w.heap.size ≤ lb
  c0 : w.heap.size ≤ c5
  lc : lb ≠ c5
  mks : ∀ r ∈ rs, w.heap.size ≤ r ∧ W.heap[r]? = some (.deferred (some []))

theorem LE.but {w W W' : World} {lb c5 n : Nat} {acc : List Int} {rs : List Nat} {T : Nat → Prop} (h : LE w lb c5 n acc rs W) (hb : But T W W') (h6 : ∀ k, k < w.heap.size → ¬ T k) (h1 : ¬ T lb) (h2 : ¬ T c5) (hm : ∀ r ∈ rs, ¬ T r) : LE w lb c5 n acc rs W' := by
  obtain ⟨f, s1, s2⟩ := h.row
  exact ⟨⟨f, hb.row s1 h1, s2⟩, hb.row h.box h2, h.bt.trans (hb.below h.bt.size h6), h.l0, h.c0, h.lc, fun r hr => ⟨(h.mks r hr).1, (hb.block r (Array.getElem?_eq_some_iff.1 (h.mks r hr).2).1 (hm r hr)).trans (h.mks r hr).2⟩⟩
theorem LE.below {w W W' : World} {lb c5 n : Nat} {acc : List Int} {rs : List Nat} (h : LE w lb c5 n acc rs W) (hb : Below W.heap.size W W') : LE w lb c5 n acc rs W' := by
  refine h.but (T := fun _ => False) ((But.of_below hb).mono (fun _ _ h => h)) (fun _ _ h => h) (fun h => h) (fun h => h) (fun _ _ h => h)
theorem LE.sum {w W : World} {lb c5 n : Nat} {acc : List Int} {rs : List Nat} (h : LE w lb c5 n acc rs W) (ha : acc.length = n) {v : Nat} (z : Int) : LE w lb c5 n (acc.set v z) rs (W.setCell ⟨lb, v, none⟩ (.int .i64 z)) := by
  obtain ⟨f, s1, s2⟩ := h.row
  refine ⟨⟨_, s1.set v _, fun i hi => ?_⟩, h.box.setOther (a := ⟨lb, v, none⟩) h.lc.symm _, h.bt.setCell h.l0 _, h.l0, h.c0, h.lc, fun r hr => ⟨(h.mks r hr).1, ?_⟩⟩
  · rw [Ch.getD_set (by omega)]
    by_cases e : i = v
    · rw [if_pos e, if_pos e]
    · rw [if_neg e, if_neg e, s2 i hi]
  · have hne : r ≠ lb := fun e => by
      have h1 := (h.mks r hr).2
      obtain ⟨_, h2, _⟩ := s1
      rw [e, h2] at h1
      cases h1
    rw [Below.heap_setCell _ _ _ _ hne]
    exact (h.mks r hr).2
theorem LE.mark {w W : World} {lb c5 n : Nat} {acc : List Int} {rs : List Nat} (h : LE w lb c5 n acc rs W) {E : Nat} (hE : w.heap.size ≤ E) (hD : W.heap[E]? = some (.deferred (some []))) : LE w lb c5 n acc (E :: rs) W :=
  ⟨h.row, h.box, h.bt, h.l0, h.c0, h.lc, fun r hr => (List.mem_cons.1 hr).elim (fun e => e ▸ ⟨hE, hD⟩) (h.mks r)⟩

/-- what lengthen leaves -/
def LnPost (w : World) (n : Nat) (acc : List Int) (e : Ending) (w' : World) : Prop :=
  ∃ lb, w.heap.size ≤ lb ∧ e = .returned (.slice (some ⟨lb, 0, none⟩) n n) ∧ (∃ f, w'.rowIs lb 3 n f ∧ ∀ i, i < n → f i = .int .i64 (acc.getD i 0)) ∧ Below w.heap.size w w'

theorem lengthen_end {w X : World} {lb c5 n : Nat} {acc : List Int} {rs : List Nat} {tmps : Array Value} (h : LE w lb c5 n acc rs X) (hn : rs.Nodup) (ht : tmps.getD 4 undef = .slice (some ⟨lb, 0, none⟩) n n) :
    LeavesInM Fence.wide 7 Tryz.prog Tryz.f60 tmps (LnPost w n acc) (marks rs) .returning X := by
  refine leaves_marks rs X hn (fun r hr => (h.mks r hr).2) ?_
  have fb := freed_but rs X
  obtain ⟨f, s1, s2⟩ := h.row
  have hlb : ¬ lb ∈ rs := fun e => by
    have h1 := (h.mks lb e).2
    obtain ⟨_, h2, _⟩ := s1
    rw [h2] at h1
    cases h1
  have ht2 : tmps[4]?.getD undef = .slice (some ⟨lb, 0, none⟩) n n := by rw [← ht]; simp
  refine ⟨.slice (some ⟨lb, 0, none⟩) n n, by simp [results, Tryz.results60, go_sem, ht2], lb, h.l0, rfl, ⟨f, fb.row s1 hlb, s2⟩, ?_⟩
  exact h.bt.trans (fb.below h.bt.size (fun k hk hm => by have := (h.mks k hm).1; omega))

/-- what the loop over the links into a node keeps -/
def LI (w : World) (S lb c5 n gb u nb b2 b3 : Nat) (z : Int) (acc0 : List Int) (lo : Int) (rs : List Nat) (pre : List Ch.Lk) (W : World) : Prop :=
  LE w lb c5 n (Ch.lenL z pre acc0) rs W ∧ Ch.Sums n lo (Ch.lenL z pre acc0) ∧ W.cell? ⟨nb, 0, none⟩ = some (.int .i64 z) ∧ W.cell? ⟨b2, 0, none⟩ = some (.pointer (some ⟨gb, 0, none⟩)) ∧ W.cell? ⟨b3, 0, none⟩ = some (.int .i64 (u : Int)) ∧
    (∀ r ∈ rs, r < S) ∧ lb < S ∧ c5 < S ∧ w.heap.size ≤ S

theorem li_own (w : World) (S lb c5 n gb u nb b2 b3 : Nat) (z : Int) (acc0 : List Int) (lo : Int) (rs : List Nat) : OwnFrom S (LI w S lb c5 n gb u nb b2 b3 z acc0 lo rs) := by
  intro pre W W' row ⟨h1, h2, h3, h4, h5, h6, h7, h8, h9⟩ hg hr
  have hr2 : ∀ r, row = some r → ∃ o : Obj, W.heap[r]? = some o ∧ o.isCells = false := fun r e => (hr r e).2
  exact ⟨h1.but (but_grown hg) (fun k hk e => by have := (hr k e).1; omega) (fun e => by have := (hr _ e).1; omega) (fun e => by have := (hr _ e).1; omega) (fun r hm e => by have := (hr r e).1; have := h6 r hm; omega), h2, cell_grown hg hr2 h3, cell_grown hg hr2 h4, cell_grown hg hr2 h5, h6, h7, h8, h9⟩

set_option maxRecDepth 100000 in
set_option maxHeartbeats 4000000 in
theorem lengthen_any (n gb sb cap : Nat) (n1 : 1 ≤ n) (n2 : n ≤ 60) (s : List Int) (lo : Int) (hlo : -1152921504606846976 ≤ lo) (hlo0 : lo ≤ 0) (hs : Hid (Ch.Sums n lo s)) (L : List Ch.Lk) (drop : List Bool) (H ib db m : Nat) (a : Option Addr) (cap0 : Nat) (V : Nat → Value) (w : World) (G : Hid (Gr w H gb ib db n m a cap0 V L (fun i => drop.getD i false))) (f : Nat → Value) (hr : Hid (w.rowIs sb 3 n f)) (hf : Hid (∀ i, i < n → f i = .int .i64 (s.getD i 0))) :
    Calls Tryz.prog 60 #[.pointer (some ⟨gb, 0, none⟩), .slice (some ⟨sb, 0, none⟩) n cap] w (LnPost w n (Ch.lengthen n L drop s)) := by
  have HU := Lib.hid (unbound_any n gb n1 n2 w (G.out.g.cell (i := 0) (by omega)))
  refine (callsIn_wide (n := 7)).1 ?_
  refine callsIn_of_wp_marks Tryz.func60 rfl trivial ?_ rfl
  simp only [Tryz.ntmps60, List.size_toArray, List.length_cons, List.length_nil, Nat.reduceAdd, Nat.reduceSub, Array.replicate_succ, Array.replicate_zero, List.push_toArray, List.append_toArray, List.nil_append, List.cons_append]
  gi_wp2_with fail
  refine ⟨trivial, ?_⟩
  refine (callsIn_wide.2 HU.out).mono ?_
  rintro e w1 ⟨lb, h1, rfl, hr1, hB1⟩
  clear HU
  have hLE : LE w lb w1.heap.size n (Ch.unbound n) [] (w1.alloc (Obj.cells #[.slice (some ⟨lb, 0, none⟩) n n] 41)) :=
    ⟨⟨_, hr1.alloc _, fun i hi => by unfold Ch.unbound; rw [List.getD, List.getElem?_replicate, if_pos hi]; rfl⟩, World.rowIs_alloc w1 _ _ _ (fun i hi => by match i, hi with | 0, _ => rfl), hB1.alloc hB1.size _, h1, hB1.size, fun e => by have := hr1.lt; omega, fun r hr => by simp at hr⟩
  replace hLE := Lib.hid hLE
  clear hr1
  gi_wp2
  rename_i K0 hK0
  generalize hQ0 : Exit.inBlock 0 _ = Q0
  replace hQ0 := Lib.hid hQ0
  replace hK0 := Lib.hid hK0
  generalize w1.alloc (Obj.cells #[.slice (some ⟨lb, 0, none⟩) n n] 41) = Y at *
  generalize w1.heap.size = c5 at *
  refine wpIn_loop_ghost_k (fun gk a' W => ∃ (v6 v7 v8 v14 v15 v16 v17 v18 v19 v20 v21 v22 v23 v24 v25 v26 v27 v28 v29 v30 v31 v32 v33 v34 v35 v36 v37 v38 v39 : Value) (v13 : Value) (k : Nat) (rs : List Nat), (k ≤ n ∧ gk = n - k ∧ v13 = .int .i64 (k : Int) ∧ Hid rs.Nodup ∧ Hid (LE w lb c5 n (Ch.lenK n L drop s k) rs W)) ∧ a' = { tmps := #[.pointer (some ⟨gb, 0, none⟩), .slice (some ⟨sb, 0, none⟩) n cap, undef, undef, .slice none 0 0, .pointer (some ⟨c5, 0, none⟩), v6, v7, v8, .pointer (some ⟨gb, 0, none⟩), .slice (some ⟨lb, 0, none⟩) n n, .slice (some ⟨sb, 0, none⟩) n cap, .int .i64 n, v13, v14, v15, v16, v17, v18, v19, v20, v21, v22, v23, v24, v25, v26, v27, v28, v29, v30, v31, v32, v33, v34, v35, v36, v37, v38, v39], defers := marks rs }) n ?_ ?_
  · exact ⟨_, _, _, _, _, _, _, _, _, _, _, _, _, _, _, _, _, _, _, _, _, _, _, _, _, _, _, _, _, _, 0, [], ⟨Nat.zero_le _, by omega, rfl, Lib.hid List.nodup_nil, hLE⟩, rfl⟩
  · clear hLE hB1 h1
    clear Y w1
    rintro gk _ wr ⟨v6, v7, v8, v14, v15, v16, v17, v18, v19, v20, v21, v22, v23, v24, v25, v26, v27, v28, v29, v30, v31, v32, v33, v34, v35, v36, v37, v38, v39, v13, u, rs, ⟨hk, rfl, rfl, HN, HS⟩, rfl⟩ J K hJ hK
    replace hJ := Lib.hid hJ
    replace hK := Lib.hid hK
    by_cases hlt : u < n
    · have hc := (Below.row HS.out.bt hr.out).cell (i := u) hlt
      rw [hf.out u hlt] at hc
      have hfr := fun h => Ch.lenK_free (n := n) (L := L) (drop := drop) (s := s) (k := u) h
      have hnx := fun h => Ch.lenK_next (n := n) (L := L) (drop := drop) (s := s) (k := u) h
      have hlz := (hs.out.2 u hlt).1
      have hhz := (hs.out.2 u hlt).2
      have hzz := Ch.Sums.lenK (drop := drop) (L := L) G.out.ok hlo0 hs.out u hk
      obtain ⟨z, hz⟩ : ∃ z, s.getD u 0 = z := ⟨_, rfl⟩
      rw [hz] at hc hfr hnx hlz hhz
      clear hz
      have hi5 : (u : Int) < (n : Int) := by omega
      have hi6 : (0 : Int) ≤ (u : Int) := by omega
      by_cases hfree : z = 1152921504606846976
      · subst hfree
        replace hfr := Lib.hid (hfr rfl)
        clear hnx hzz
        gi_wp2
        refine hK.out _ _ (Handed.intro (n - (u + 1)) (by omega) (hJ.out _ _ _ ?_))
        exact ⟨_, _, _, _, _, _, _, _, _, _, _, _, _, _, _, _, _, _, _, _, _, _, _, _, _, _, _, _, _, _, u + 1, rs, ⟨by omega, rfl, by go_num, HN, Lib.hid (by rw [hfr.out]; exact HS.out.below ((Below.refl _ _).alloc (Nat.le_refl _) _))⟩, rfl⟩
      · have hne : (z == 1152921504606846976) = false := by rw [beq_eq_false_iff_ne]; exact hfree
        replace hnx := Lib.hid (hnx hfree)
        clear hfr
        have hX := Lib.hid (HS.out.below ((Below.refl _ _).alloc (Nat.le_refl _) (Obj.cells #[.int .i64 z] 3)))
        have nb0 : (wr.alloc (Obj.cells #[.int .i64 z] 3)).cell? ⟨wr.heap.size, 0, none⟩ = some (.int .i64 z) := by simp [go_sem]
        have hX2 : (wr.alloc (Obj.cells #[.int .i64 z] 3)).heap.size = wr.heap.size + 1 := by simp
        have hws := HS.out.bt.size
        have hln : lb < wr.heap.size := by obtain ⟨_, h, _⟩ := HS.out.row; exact h.lt
        clear HS
        gi_wp2_with fail
        generalize wr.alloc (Obj.cells #[.int .i64 z] 3) = X2 at *
        generalize wr.heap.size = nb at *
        replace hX2 := Lib.hid hX2
        refine ⟨trivial, ?_⟩
        refine (callsIn_wide.2 (linksInto_any gb u _)).mono ?_
        rintro e w3 ⟨rfl, rfl⟩
        gi_wp2_with fail
        obtain ⟨av, cr, hV, _⟩ := G.out.v u hlt
        refine range_nextB (fun l : Ch.Lk => Obj.cells #[.int .i64 l.f, .int .i64 l.t, .int .i64 l.m] 54) (enc := lkV) (n := 7) (by omega) (gf := 92) (lb := #[.pointer (some ⟨X2.heap.size, 0, none⟩), .pointer (some ⟨X2.heap.size + 1, 0, none⟩)]) rfl (enters_of Tryz.func92 (by kernel_rfl) rfl)
          (linksInto_hands 6 (by omega) X2.heap.size (X2.heap.size + 1) gb ib db n m u hlt a av cap0 cr (Ch.into L u) (Nat.le_trans (into_len L u) (by rw [G.out.hm]; exact G.out.m3)) (fun k hk => by rw [← G.out.hm]; exact into_lt hk) L (fun i => drop.getD i false) _) (Below.refl _ _)
          (LI w _ lb c5 n gb u nb X2.heap.size (X2.heap.size + 1) z (Ch.lenK n L drop s u) (lo - 4503599627370496) rs) (fun _ _ => False) (li_own _ _ _ _ _ _ _ _ _ _ _ _ _ _) (fun _ _ _ _ h _ _ => h) ?keep ?init (fun x b => { tmps := #[.pointer (some ⟨gb, 0, none⟩), .slice (some ⟨sb, 0, none⟩) n cap, undef, undef, .slice none 0 0, .pointer (some ⟨c5, 0, none⟩), .int .i64 u, .pointer (some ⟨nb, 0, none⟩), .pointer (some ⟨b, 0, none⟩), .pointer (some ⟨gb, 0, none⟩), .slice (some ⟨lb, 0, none⟩) n n, .slice (some ⟨sb, 0, none⟩) n cap, .int .i64 n, .int .i64 u, .bool true, .int .i64 u, .pointer (some ⟨sb, u, none⟩), .int .i64 z, .int .i64 z, .bool false, .pointer (some ⟨gb, 0, none⟩), .int .i64 u, .func (.func 92) #[] #[.pointer (some ⟨X2.heap.size, 0, none⟩), .pointer (some ⟨X2.heap.size + 1, 0, none⟩)], lkV x, v24, v25, v26, v27, v28, v29, v30, v31, v32, v33, v34, v35, v36, v37, v38, v39], defers := [] }) ?assign ?body ?done ?stop
        case keep =>
          rintro pre W ⟨h1, _, h3, h4, h5, _⟩
          exact (G.out.below (h1.bt.mono G.out.hH)).lk hlt hV h4 h5
        case init =>
          have hsz2 : X2.heap.size = nb + 1 := hX2.out
          have e2 : (X2.alloc (Obj.cells #[.pointer (some ⟨gb, 0, none⟩)] 67)).heap.size = X2.heap.size + 1 := by simp
          obtain ⟨fx, fx1, _⟩ := hX.out.row
          have l1 := fx1.lt
          have l2 := hX.out.box.lt
          refine ⟨hX.out.below (((Below.refl _ _).alloc (Nat.le_refl _) _).alloc (by rw [e2]; omega) _), hzz, cell_alloc (cell_alloc nb0 _) _, by simp [go_sem], by simp [go_sem], fun r hr => ?_, ?_, ?_, ?_⟩
          · have := (Array.getElem?_eq_some_iff.1 (hX.out.mks r hr).2).1
            simp; omega
          · simp; omega
          · simp; omega
          · simp; omega
        case assign =>
          intro l x' W K' hK'
          obtain ⟨f', t', mo'⟩ := x'
          simp only [lkV] at hK' ⊢
          gi_wp2
          exact hK'
        case body =>
          rintro l pre ⟨f', t', mo'⟩ W r r' ⟨g1, g2, g3, g4, g5, g6, g7, g8, g9⟩ hpre hl hlr
          obtain ⟨i, hi, hli, htu⟩ := outs_mem hpre
          have hok := Ch.okLk_spec (by have := G.out.ok i hi; rw [← hli] at this; exact this)
          simp only at htu hok
          subst htu
          obtain ⟨o1, o2, _, _, _, o6, o7⟩ := hok
          obtain ⟨f, rfl⟩ : ∃ k : Nat, f' = (k : Int) := ⟨f'.toNat, by omega⟩
          have hfn : f < n := by omega
          obtain ⟨fa, fa1, fa2⟩ := g1.row
          have not_row : ∀ {b : Nat} {T : TypeId} {k : Nat} {q : Nat → Value}, W.rowIs b T k q → b ≠ l := fun h e => by
            obtain ⟨_, h1, _⟩ := h
            rw [e, hlr] at h1
            cases h1
          have not_cell : ∀ {p : Addr} {x : Value}, W.cell? p = some x → p.block ≠ l := fun h e => by
            unfold World.cell? at h
            rw [e, hlr] at h
            cases h
          have hbA : But (fun k => k = l) W ((W.alloc (Obj.cells #[.int .i64 (f : Int), .int .i64 (u : Int), .int .i64 mo'] 54)).putObj l (.loop r')) := ((But.refl _ _).alloc _).trans (but_putObj l _)
          have X1 := g1.but hbA (fun k hk e => by have h1 : k = l := e; omega) (not_row fa1) (not_row g1.box) (fun r1 hm e => by have h1 : r1 = l := e; have := g6 r1 hm; omega)
          have Xn := hbA.kept g3 (not_cell g3)
          have X4 := hbA.kept g4 (not_cell g4)
          have X5 := hbA.kept g5 (not_cell g5)
          have hlW : l < W.heap.size := (Array.getElem?_eq_some_iff.1 hlr).1
          have B1 : ((W.alloc (Obj.cells #[.int .i64 (f : Int), .int .i64 (u : Int), .int .i64 mo'] 54)).putObj l (.loop r')).rowIs W.heap.size 54 3 (fun i => (#[Value.int .i64 (f : Int), .int .i64 (u : Int), .int .i64 mo'][i]?).getD undef) :=
            (World.rowIs_alloc W #[.int .i64 (f : Int), .int .i64 (u : Int), .int .i64 mo'] 54 _ (fun i hi => by rw [Array.getElem?_eq_getElem hi]; rfl)).of_block ((but_putObj l _).block _ (by simp) (by omega))
          have q0 := B1.cell (i := 0) (by omega)
          have q2 := B1.cell (i := 2) (by omega)
          obtain ⟨fs, s1, s2⟩ := X1.row
          have sf := s1.cell (i := f) hfn
          rw [s2 f hfn] at sf
          have ff := s1.frozen f
          have r1 := X1.box.cell (i := 0) (by omega)
          have hKA : KeepsFrom (((X2.alloc (Obj.cells #[.pointer (some ⟨gb, 0, none⟩)] 67)).alloc (Obj.cells #[.int .i64 (u : Int)] 3)).heap.size) ((W.alloc (Obj.cells #[.int .i64 (f : Int), .int .i64 (u : Int), .int .i64 mo'] 54)).putObj l (.loop r')) ((W.alloc (Obj.cells #[.int .i64 (f : Int), .int .i64 (u : Int), .int .i64 mo'] 54)).putObj l (.loop r')) := KeepsFrom.refl _ _
          have hS := Lib.hid (X1.sum (v := f) g2.1 (min ((Ch.lenL z pre (Ch.lenK n L drop s u)).getD f 0) (z + mo')))
          have hq := Lib.hid (g2.step (j := f) (z := z + mo') (by omega))
          obtain ⟨sv, hsv⟩ : ∃ sv, (Ch.lenL z pre (Ch.lenK n L drop s u)).getD f 0 = sv := ⟨_, rfl⟩
          rw [hsv] at sf hS hq
          have esn : Hid (Ch.lenL z (pre ++ [⟨(f : Int), (u : Int), mo'⟩]) (Ch.lenK n L drop s u) = (Ch.lenL z pre (Ch.lenK n L drop s u)).set f (min sv (z + mo'))) := Lib.hid (by
            rw [Ch.lenL_snoc]
            simp only [Int.toNat_natCast]
            rw [hsv])
          have i1 : (0 : Int) ≤ (f : Int) := by omega
          have i2 : (f : Int) < (n : Int) := by omega
          have aw : IntKind.i64.wrap (z + mo') = z + mo' := wrap_ok (by omega) (by omega)
          clear hsv B1 s1 s2 X1 fa1 fa2 g1 g2 g3 g4 g5 hli hpre hlr hbA
          generalize (W.alloc (Obj.cells #[.int .i64 (f : Int), .int .i64 (u : Int), .int .i64 mo'] 54)).putObj l (.loop r') = X at *
          generalize W.heap.size = bb at *
          gi_wp2_with fail
          refine tail_round 13 (fun ⟨_, _, h⟩ => h) rfl (by kernel_rfl) (by kernel_rfl) ?_
          simp only [List.take_succ_cons, List.take_zero, List.drop_succ_cons, List.drop_zero]
          change wpStill _ _ X.drew (fun a' => wpList _ _ _ _ a' X.drew) _ _
          have z0 : X.drew.cell? ⟨bb, 0, none⟩ = some (.int .i64 (f : Int)) := q0
          have z2 : X.drew.cell? ⟨bb, 2, none⟩ = some (.int .i64 mo') := q2
          have zf : X.drew.cell? ⟨lb, f, none⟩ = some (.int .i64 sv) := sf
          have zz : X.drew.cell? ⟨nb, 0, none⟩ = some (.int .i64 z) := Xn
          have zr : X.drew.cell? ⟨c5, 0, none⟩ = some (.slice (some ⟨lb, 0, none⟩) n n) := r1
          have fz : X.drew.frozen? ⟨lb, f, none⟩ = false := ff
          have z4 : X.drew.cell? ⟨X2.heap.size, 0, none⟩ = some (.pointer (some ⟨gb, 0, none⟩)) := X4
          have z5 : X.drew.cell? ⟨X2.heap.size + 1, 0, none⟩ = some (.int .i64 (u : Int)) := X5
          replace hS : Hid (LE w lb c5 n _ rs (X.drew.setCell ⟨lb, f, none⟩ (.int .i64 (min sv (z + mo'))))) := Lib.hid (hS.out.below (Below.refl _ _).drew)
          have hKB : KeepsOthers X X.drew := KeepsOthers.drew _
          clear q0 q2 sf Xn r1 ff X4 X5
          generalize X.drew = Z at *
          repeat still_step
          refine wpStill_nil ?_
          have hX2o := hX2.out
          have y0 := cell_set_ne (v := .int .i64 (min sv (z + mo'))) (q := ⟨lb, f, none⟩) zz (by simp; omega)
          have y4 := cell_set_ne (v := .int .i64 (min sv (z + mo'))) (q := ⟨lb, f, none⟩) z4 (by simp; omega)
          have y5 := cell_set_ne (v := .int .i64 (min sv (z + mo'))) (q := ⟨lb, f, none⟩) z5 (by simp; omega)
          clear hX2o
          go_wp2
          exact ⟨(hKB.trans (KeepsOthers.setCell _ _ _)).from _, (hKB.trans (KeepsOthers.setCell _ _ _)).walks, by rw [LI, esn.out]; exact ⟨hS.out, hq.out, y0, y4, y5, fun r hr => by have := g6 r hr; simpa using this, by simpa using g7, by simpa using g8, by simpa using g9⟩⟩
        case done =>
          rintro E W hE ⟨g1, _, _, _, _, g6, _, _, g9⟩ hD
          have hne : E ∉ rs := fun hm => by have := g6 E hm; omega
          have HE := Lib.hid (g1.mark (E := E) (by omega) hD)
          have e9 : Ch.lenL z (outs (Ch.into L u) L fun i => drop.getD i false) (Ch.lenK n L drop s u) = Ch.lenK n L drop s (u + 1) := hnx.out.symm
          rw [e9] at HE
          gi_wp2
          refine hK.out _ _ (Handed.intro (n - (u + 1)) (by omega) (hJ.out _ _ _ ?_))
          exact ⟨_, _, _, _, _, _, _, _, _, _, _, _, _, _, _, _, _, _, _, _, _, _, _, _, _, _, _, _, _, _, u + 1, E :: rs, ⟨by omega, rfl, by go_num, Lib.hid (List.nodup_cons.2 ⟨hne, HN.out⟩), HE⟩, rfl⟩
        case stop => exact fun _ _ _ _ _ h _ => h.elim
    · obtain rfl : u = n := by omega
      have hi5 : ¬ (u : Int) < (u : Int) := by omega
      have cb := HS.out.box.cell (i := 0) (by omega)
      gi_wp2
      rw [← hQ0.out]
      refine hK0.out _ _ ?_
      clear hK0 hQ0 hJ hK
      gi_wp2
      exact lengthen_end (rs := rs) HS.out HN.out rfl
end Go.Proofs.YtemacokojdeimaaGreatDoor

/- Contracts of package chain: sumsTo and what it returns. -/
namespace Go.Proofs.YtemacokojdeimaaGreatDoor
open Go.RowKit

/-- what the function that sumsTo returns keeps: the lists S of 0 to K links, in the rows R -/
structure CS (W : World) (H kb b2 ab gb n : Nat) (R : Nat → Nat) (S : Nat → List Int) (kv K : Nat) : Prop where
  k : W.rowIs kb 3 1 (fun _ => .int .i64 (kv : Int))
  b : W.rowIs b2 67 1 (fun _ => .pointer (some ⟨gb, 0, none⟩))
  a : ∃ A, W.rowIs ab 104 61 A ∧ ∀ i, i ≤ K → A i = .slice (some ⟨R i, 0, none⟩) n n
  r : ∀ i, i ≤ K → ∃ f, W.rowIs (R i) 3 n f ∧ ∀ j, j < n → f j = .int .i64 ((S i).getD j 0)
  rk : ∀ i, i ≤ K → R i ≠ kb
  hk : H ≤ kb
  ha : H ≤ ab
  hb : H ≤ b2
  hr : ∀ i, i ≤ K → H ≤ R i
  ka : kb ≠ ab
  ba : b2 ≠ ab
  bk : b2 ≠ kb
  ra : ∀ i, i ≤ K → R i ≠ ab

theorem CS.but {W W' : World} {H kb b2 ab gb n : Nat} {R : Nat → Nat} {S : Nat → List Int} {kv K : Nat} {T : Nat → Prop} (h : CS W H kb b2 ab gb n R S kv K) (hb : But T W W') (h1 : ¬ T kb) (h2 : ¬ T b2) (h3 : ¬ T ab) (h4 : ∀ i, i ≤ K → ¬ T (R i)) : CS W' H kb b2 ab gb n R S kv K := by
  obtain ⟨A, a1, a2⟩ := h.a
  refine ⟨hb.row h.k h1, hb.row h.b h2, ⟨A, hb.row a1 h3, a2⟩, fun i hi => ?_, h.rk, h.hk, h.ha, h.hb, h.hr, h.ka, h.ba, h.bk, h.ra⟩
  obtain ⟨f, f1, f2⟩ := h.r i hi
  exact ⟨f, hb.row f1 (h4 i hi), f2⟩
theorem CS.below {W W' : World} {H kb b2 ab gb n : Nat} {R : Nat → Nat} {S : Nat → List Int} {kv K : Nat} (h : CS W H kb b2 ab gb n R S kv K) (hb : Below W.heap.size W W') : CS W' H kb b2 ab gb n R S kv K :=
  h.but (T := fun _ => False) ((But.of_below hb).mono (fun _ _ h => h)) (fun h => h) (fun h => h) (fun h => h) (fun _ _ h => h)
theorem CS.count {W : World} {H kb b2 ab gb n : Nat} {R : Nat → Nat} {S : Nat → List Int} {kv K : Nat} (h : CS W H kb b2 ab gb n R S kv K) (z : Nat) : CS (W.setCell ⟨kb, 0, none⟩ (.int .i64 (z : Int))) H kb b2 ab gb n R S z K := by
  obtain ⟨A, a1, a2⟩ := h.a
  refine ⟨(h.k.set 0 _).congr (fun i hi => if_pos (by omega)), h.b.setOther (a := ⟨kb, 0, none⟩) h.bk _, ⟨A, a1.setOther (a := ⟨kb, 0, none⟩) h.ka.symm _, a2⟩, fun i hi => ?_, h.rk, h.hk, h.ha, h.hb, h.hr, h.ka, h.ba, h.bk, h.ra⟩
  obtain ⟨f, f1, f2⟩ := h.r i hi
  exact ⟨f, f1.setOther (a := ⟨kb, 0, none⟩) (h.rk i hi) _, f2⟩
theorem CS.lay {W : World} {H kb b2 ab gb n : Nat} {R : Nat → Nat} {S : Nat → List Int} {kv K : Nat} (h : CS W H kb b2 ab gb n R S kv K) {lb : Nat} {f : Nat → Value} (hl : H ≤ lb) (hk : lb ≠ kb) (ha : lb ≠ ab) (h1 : W.rowIs lb 3 n f) (h2 : ∀ j, j < n → f j = .int .i64 ((S (K + 1)).getD j 0)) :
    CS (W.setCell ⟨ab, K + 1, none⟩ (.slice (some ⟨lb, 0, none⟩) n n)) H kb b2 ab gb n (fun i => if i ≤ K then R i else lb) S kv (K + 1) := by
  obtain ⟨A, a1, a2⟩ := h.a
  refine ⟨h.k.setOther (a := ⟨ab, K + 1, none⟩) h.ka _, h.b.setOther (a := ⟨ab, K + 1, none⟩) h.ba _, ⟨_, a1.set (K + 1) _, fun i hi => ?_⟩, fun i hi => ?_, fun i hi => ?_, h.hk, h.ha, h.hb, fun i hi => ?_, h.ka, h.ba, h.bk, fun i hi => ?_⟩
  · by_cases e : i = K + 1
    · subst e; rw [if_pos rfl, if_neg (by omega)]
    · rw [if_neg e, if_pos (by omega), a2 i (by omega)]
  · by_cases e : i ≤ K
    · simp only [if_pos e]
      obtain ⟨g, g1, g2⟩ := h.r i e
      exact ⟨g, g1.setOther (a := ⟨ab, K + 1, none⟩) (h.ra i e) _, g2⟩
    · obtain rfl : i = K + 1 := by omega
      simp only [if_neg e]
      exact ⟨f, h1.setOther (a := ⟨ab, K + 1, none⟩) ha _, h2⟩
  · by_cases e : i ≤ K
    · simp only [if_pos e]; exact h.rk i e
    · simp only [if_neg e]; exact hk
  · by_cases e : i ≤ K
    · simp only [if_pos e]; exact h.hr i e
    · simp only [if_neg e]; exact hl
  · by_cases e : i ≤ K
    · simp only [if_pos e]; exact h.ra i e
    · simp only [if_neg e]; exact ha

/-- what the function that sumsTo returns leaves -/
def SuPost (w : World) (H kb b2 ab gb n : Nat) (R : Nat → Nat) (S : Nat → List Int) (K k : Nat) (e : Ending) (w' : World) : Prop :=
  ∃ R', e = .returned (.slice (some ⟨R' k, 0, none⟩) n n) ∧ CS w' H kb b2 ab gb n R' S (max K k) (max K k) ∧ (∀ i, i ≤ K → R' i = R i) ∧ But (fun b => b = kb ∨ b = ab) w w' ∧ ∀ i, K < i → i ≤ max K k → w.heap.size ≤ R' i

theorem keepS {W : World} {kb b2 ab K : Nat} {x0 x1 x2 v : Value} (h : W.cell? ⟨kb, 0, none⟩ = some x0 ∧ W.cell? ⟨b2, 0, none⟩ = some x1 ∧ W.cell? ⟨ab, K, none⟩ = some x2) :
    (W.setCell ⟨ab, K + 1, none⟩ v).cell? ⟨kb, 0, none⟩ = some x0 ∧ (W.setCell ⟨ab, K + 1, none⟩ v).cell? ⟨b2, 0, none⟩ = some x1 ∧ (W.setCell ⟨ab, K + 1, none⟩ v).cell? ⟨ab, K, none⟩ = some x2 := by
  refine ⟨?_, ?_, ?_⟩
  · rw [World.cell?_setCell_other _ _ _ _ (by simp)]; exact h.1
  · rw [World.cell?_setCell_other _ _ _ _ (by simp)]; exact h.2.1
  · rw [World.cell?_setCell_other _ _ _ _ (by simp)]; exact h.2.2
theorem keepB {W W' : World} {p0 p1 p2 : Addr} {x0 x1 x2 : Value} (h : W.cell? p0 = some x0 ∧ W.cell? p1 = some x1 ∧ W.cell? p2 = some x2) (hb : Below W.heap.size W W') : W'.cell? p0 = some x0 ∧ W'.cell? p1 = some x1 ∧ W'.cell? p2 = some x2 :=
  ⟨kept1 h.1 hb, kept1 h.2.1 hb, kept1 h.2.2 hb⟩

set_option maxRecDepth 100000 in
set_option maxHeartbeats 2000000 in
theorem sums_any (n gb v : Nat) (n1 : 1 ≤ n) (n2 : n ≤ 60) (L : List Ch.Lk) (drop : List Bool) (H kb b2 ab ib db m : Nat) (a : Option Addr) (cap0 : Nat) (V : Nat → Value) (R : Nat → Nat) (K k : Nat) (hk : k ≤ 60) (hK : K ≤ 60) (w : World) (G : Hid (Gr w H gb ib db n m a cap0 V L (fun i => drop.getD i false))) (hC : Hid (CS w H kb b2 ab gb n R (Ch.sumsTo n L drop v) K K)) :
    Calls Tryz.prog 59 #[.int .i64 k, .pointer (some ⟨kb, 0, none⟩), .pointer (some ⟨b2, 0, none⟩), .pointer (some ⟨ab, 0, none⟩)] w (SuPost w H kb b2 ab gb n R (Ch.sumsTo n L drop v) K k) := by
  go_enter Tryz.func59, Tryz.ntmps59
  go_wp2_with fail
  go_loopw [] (fun wr => ∃ (j : Nat) (R' : Nat → Nat), K ≤ j ∧ j ≤ max K k ∧ Hid (CS wr H kb b2 ab gb n R' (Ch.sumsTo n L drop v) j j) ∧ Hid (∀ i, i ≤ K → R' i = R i) ∧ Hid (But (fun b => b = kb ∨ b = ab) w wr) ∧ Hid (∀ i, K < i → i ≤ j → w.heap.size ≤ R' i)) (fun wr => k - (RowKit.intOf (cv wr ⟨kb, 0, none⟩)).toNat)
  case atStart => exact ⟨K, R, Nat.le_refl _, Nat.le_max_left _ _, hC, Lib.hid fun _ _ => rfl, Lib.hid (But.refl _ _), Lib.hid fun i h1 h2 => by omega⟩
  case round =>
    obtain ⟨j, R', j1, j2, HC, HR, HB, HN⟩ := hrel
    have c0 := HC.out.k.cell (i := 0) (by omega)
    have hmeas : cv wr ⟨kb, 0, none⟩ = .int .i64 (j : Int) := cv_eq c0
    by_cases hlt : j < k
    · have hi5 : (j : Int) < (k : Int) := by omega
      have z0 := HC.out.k.frozen 0
      have HC1 := HC.out.count (j + 1)
      have hBk := HB.out.setCell (p := ⟨kb, 0, none⟩) (.inr (.inl rfl)) (.int .i64 ((j + 1 : Nat) : Int))
      rw [show ((j + 1 : Nat) : Int) = (j : Int) + 1 from rfl] at HC1 hBk
      replace HC1 := Lib.hid HC1
      replace hBk := Lib.hid hBk
      clear HC HB
      go_upto_region 3 with fail
      generalize wr.setCell ⟨kb, 0, none⟩ (.int .i64 ((j : Int) + 1)) = Z at *
      obtain ⟨A, a1, a2⟩ := HC1.out.a
      obtain ⟨f, f1, f2⟩ := HC1.out.r j (Nat.le_refl _)
      have zk : Z.drew.cell? ⟨kb, 0, none⟩ = some (.int .i64 ((j : Int) + 1)) := HC1.out.k.cell (i := 0) (by omega)
      have zb : Z.drew.cell? ⟨b2, 0, none⟩ = some (.pointer (some ⟨gb, 0, none⟩)) := HC1.out.b.cell (i := 0) (by omega)
      have za : Z.drew.cell? ⟨ab, j, none⟩ = some (A j) := a1.cell (i := j) (by omega)
      rw [a2 j (Nat.le_refl _)] at za
      have zd : Z.drew.cell? ⟨ab, j + 1, none⟩ = some (A (j + 1)) := a1.cell (i := j + 1) (by omega)
      have zf : Z.drew.frozen? ⟨ab, j + 1, none⟩ = false := a1.frozen (j + 1)
      have hzj := Ch.Sums.sumsTo (v := v) (drop := drop) G.out.ok j
      have HL := Lib.hid (lengthen_any n gb (R' j) n n1 n2 (Ch.sumsTo n L drop v j) (-(4503599627370496 * (j : Int))) (by omega) (by omega) (Lib.hid hzj) L drop H ib db m a cap0 V Z.drew (Lib.hid ((G.out.below (hBk.out.below G.out.hH (fun k hk e => by have := HC1.out.hk; have := HC1.out.ha; omega))).below (Below.refl _ _).drew)) f (Lib.hid f1.drew) (Lib.hid f2))
      have hw1 : IntKind.i64.wrap (j : Int) = (j : Int) := wrap_ok (by omega) (by omega)
      have hj1 : (j : Int) + 1 < 61 := by omega
      have hj4 : (0 : Int) ≤ (j : Int) + 1 := by omega
      have hj5 : ((j : Int) + 1).toNat = j + 1 := by omega
      have hj2 : (j : Int) < 61 := by omega
      have hj3 : (0 : Int) ≤ (j : Int) := by omega
      have S0 : Z.drew.cell? ⟨kb, 0, none⟩ = some (.int .i64 ((j : Int) + 1)) ∧ Z.drew.cell? ⟨b2, 0, none⟩ = some (.pointer (some ⟨gb, 0, none⟩)) ∧ Z.drew.cell? ⟨ab, j, none⟩ = some (.slice (some ⟨R' j, 0, none⟩) n n) := ⟨zk, zb, za⟩
      clear f1 f2 a1 a2 hzj zk zb za
      go_region_held3 (fun w' => w'.cell? ⟨kb, 0, none⟩ = some (.int .i64 ((j : Int) + 1)) ∧ w'.cell? ⟨b2, 0, none⟩ = some (.pointer (some ⟨gb, 0, none⟩)) ∧ w'.cell? ⟨ab, j, none⟩ = some (.slice (some ⟨R' j, 0, none⟩) n n))
        (first | with_reducible exact S0 | with_reducible exact keepB (by assumption) hbp | with_reducible exact keepS (by assumption))
        (first
        | (go_at_call 60
           with_reducible refine HL.out.mono ?_
           rintro e wp1 ⟨lb, hl1, he, hrow, hbp⟩
           subst he
           have d1 := kept1 zd hbp
           have d2 : wp1.frozen? ⟨ab, j + 1, none⟩ = false := (hbp.frozen (p := ⟨ab, j + 1, none⟩) (block_lt_of_cell zd)).trans zf
           skip))
      obtain ⟨f, r1, r2⟩ := hrow
      have hl2 : Z.heap.size ≤ lb := hl1
      have lk := HC1.out.k.lt
      have la : ab < Z.heap.size := by obtain ⟨A, a1, _⟩ := HC1.out.a; exact a1.lt
      have hHZ : H ≤ Z.heap.size := Nat.le_trans HC1.out.hk (Nat.le_of_lt lk)
      have HC2 := Lib.hid ((HC1.out.below (Below.trans (Below.refl _ _).drew hbp)).lay (lb := lb) (f := f) (by omega) (by omega) (by omega) r1 r2)
      have hB2 := Lib.hid ((hBk.out.trans (.of_below (Below.trans (Below.refl _ _).drew hbp))).setCell (p := ⟨ab, j + 1, none⟩) (.inr (.inr rfl)) (.slice (some ⟨lb, 0, none⟩) n n))
      have hm2 : cv (wp1.setCell ⟨ab, j + 1, none⟩ (.slice (some ⟨lb, 0, none⟩) n n)) ⟨kb, 0, none⟩ = .int .i64 ((j : Int) + 1) := cv_eq (HC2.out.k.cell (i := 0) (by omega))
      have HR2 : Hid (∀ i, i ≤ K → (if i ≤ j then R' i else lb) = R i) := Lib.hid fun i hi => by rw [if_pos (by omega)]; exact HR.out i hi
      have hwZ : w.heap.size ≤ Z.heap.size := hBk.out.size
      have HN2 : Hid (∀ i, K < i → i ≤ j + 1 → w.heap.size ≤ (if i ≤ j then R' i else lb)) := Lib.hid fun i h1 h2 => by
        by_cases e : i ≤ j
        · rw [if_pos e]; exact HN.out i h1 e
        · rw [if_neg e]; omega
      clear d1 d2 zd zf S0 HL
      go_wp2
      go_roundw
      case rel => exact ⟨j + 1, _, by omega, by omega, HC2, HR2, hB2, HN2⟩
      case measure => rw [hm2, hmeas]; show k - ((j : Int) + 1).toNat < k - (j : Int).toNat; omega
    · have hi5 : ¬ (j : Int) < (k : Int) := by omega
      obtain ⟨A, a1, a2⟩ := HC.out.a
      have hjK : max K k = j := by omega
      have c1 := a1.cell (i := k) (by omega)
      rw [a2 k (by omega)] at c1
      have hk60 : (k : Int) < 61 := by omega
      have hk0 : (0 : Int) ≤ (k : Int) := by omega
      clear a1 a2
      go_wp2
      go_ret
      exact ⟨R', rfl, by rw [hjK]; exact HC.out, HR.out, HB.out, by rw [hjK]; exact HN.out⟩

theorem a61_row (w : World) : (w.alloc (Obj.cells #[.slice none 0 0, .slice none 0 0, .slice none 0 0, .slice none 0 0, .slice none 0 0, .slice none 0 0, .slice none 0 0, .slice none 0 0, .slice none 0 0, .slice none 0 0, .slice none 0 0, .slice none 0 0, .slice none 0 0, .slice none 0 0, .slice none 0 0, .slice none 0 0, .slice none 0 0, .slice none 0 0, .slice none 0 0, .slice none 0 0, .slice none 0 0, .slice none 0 0, .slice none 0 0, .slice none 0 0, .slice none 0 0, .slice none 0 0, .slice none 0 0, .slice none 0 0, .slice none 0 0, .slice none 0 0, .slice none 0 0, .slice none 0 0, .slice none 0 0, .slice none 0 0, .slice none 0 0, .slice none 0 0, .slice none 0 0, .slice none 0 0, .slice none 0 0, .slice none 0 0, .slice none 0 0, .slice none 0 0, .slice none 0 0, .slice none 0 0, .slice none 0 0, .slice none 0 0, .slice none 0 0, .slice none 0 0, .slice none 0 0, .slice none 0 0, .slice none 0 0, .slice none 0 0, .slice none 0 0, .slice none 0 0, .slice none 0 0, .slice none 0 0, .slice none 0 0, .slice none 0 0, .slice none 0 0, .slice none 0 0, .slice none 0 0] 104)).rowIs w.heap.size 104 61 (fun _ => .slice none 0 0) := by
  have e : (#[.slice none 0 0, .slice none 0 0, .slice none 0 0, .slice none 0 0, .slice none 0 0, .slice none 0 0, .slice none 0 0, .slice none 0 0, .slice none 0 0, .slice none 0 0, .slice none 0 0, .slice none 0 0, .slice none 0 0, .slice none 0 0, .slice none 0 0, .slice none 0 0, .slice none 0 0, .slice none 0 0, .slice none 0 0, .slice none 0 0, .slice none 0 0, .slice none 0 0, .slice none 0 0, .slice none 0 0, .slice none 0 0, .slice none 0 0, .slice none 0 0, .slice none 0 0, .slice none 0 0, .slice none 0 0, .slice none 0 0, .slice none 0 0, .slice none 0 0, .slice none 0 0, .slice none 0 0, .slice none 0 0, .slice none 0 0, .slice none 0 0, .slice none 0 0, .slice none 0 0, .slice none 0 0, .slice none 0 0, .slice none 0 0, .slice none 0 0, .slice none 0 0, .slice none 0 0, .slice none 0 0, .slice none 0 0, .slice none 0 0, .slice none 0 0, .slice none 0 0, .slice none 0 0, .slice none 0 0, .slice none 0 0, .slice none 0 0, .slice none 0 0, .slice none 0 0, .slice none 0 0, .slice none 0 0, .slice none 0 0, .slice none 0 0] : Array Value) = Array.replicate 61 (.slice none 0 0) := rfl
  rw [e]
  have h := World.rowIs_alloc w (Array.replicate 61 (.slice none 0 0)) 104 (fun _ => .slice none 0 0) (fun i hi => by
    rw [Array.size_replicate] at hi
    rw [Array.getElem?_replicate, if_pos hi])
  rw [Array.size_replicate] at h
  exact h

/-- what sumsTo leaves -/
def StPost (w : World) (gb n : Nat) (S : Nat → List Int) (e : Ending) (w' : World) : Prop :=
  ∃ kb b2 ab R, e = .returned (.func (.func 59) #[] #[.pointer (some ⟨kb, 0, none⟩), .pointer (some ⟨b2, 0, none⟩), .pointer (some ⟨ab, 0, none⟩)]) ∧ CS w' w.heap.size kb b2 ab gb n R S 0 0 ∧ Below w.heap.size w w'

set_option maxRecDepth 100000 in
set_option maxHeartbeats 2000000 in
theorem sumsTo_any (n gb : Nat) (n1 : 1 ≤ n) (n2 : n ≤ 60) (v : Nat) (hv : v < n) (L : List Ch.Lk) (drop : List Bool) (w : World) (g0 : w.cell? ⟨gb, 0, none⟩ = some (.int .i64 n)) :
    Calls Tryz.prog 34 #[.pointer (some ⟨gb, 0, none⟩), .int .i64 v] w (StPost w gb n (Ch.sumsTo n L drop v)) := by
  have hmf : ∀ (fn : Fn) (first cap : Array Value) (w : World), (Instr.makeFunc fn first cap).run Tryz.prog w = .ok (.func fn first cap) w := fun _ _ _ _ => rfl
  have bX : Below w.heap.size w ((w.alloc (Obj.cells #[.pointer (some ⟨gb, 0, none⟩)] 67)).alloc (Obj.cells #[.slice none 0 0, .slice none 0 0, .slice none 0 0, .slice none 0 0, .slice none 0 0, .slice none 0 0, .slice none 0 0, .slice none 0 0, .slice none 0 0, .slice none 0 0, .slice none 0 0, .slice none 0 0, .slice none 0 0, .slice none 0 0, .slice none 0 0, .slice none 0 0, .slice none 0 0, .slice none 0 0, .slice none 0 0, .slice none 0 0, .slice none 0 0, .slice none 0 0, .slice none 0 0, .slice none 0 0, .slice none 0 0, .slice none 0 0, .slice none 0 0, .slice none 0 0, .slice none 0 0, .slice none 0 0, .slice none 0 0, .slice none 0 0, .slice none 0 0, .slice none 0 0, .slice none 0 0, .slice none 0 0, .slice none 0 0, .slice none 0 0, .slice none 0 0, .slice none 0 0, .slice none 0 0, .slice none 0 0, .slice none 0 0, .slice none 0 0, .slice none 0 0, .slice none 0 0, .slice none 0 0, .slice none 0 0, .slice none 0 0, .slice none 0 0, .slice none 0 0, .slice none 0 0, .slice none 0 0, .slice none 0 0, .slice none 0 0, .slice none 0 0, .slice none 0 0, .slice none 0 0, .slice none 0 0, .slice none 0 0, .slice none 0 0] 104)) := below_alloc (below_alloc (Below.refl _ _) _) _
  have rb : ((w.alloc (Obj.cells #[.pointer (some ⟨gb, 0, none⟩)] 67)).alloc (Obj.cells #[.slice none 0 0, .slice none 0 0, .slice none 0 0, .slice none 0 0, .slice none 0 0, .slice none 0 0, .slice none 0 0, .slice none 0 0, .slice none 0 0, .slice none 0 0, .slice none 0 0, .slice none 0 0, .slice none 0 0, .slice none 0 0, .slice none 0 0, .slice none 0 0, .slice none 0 0, .slice none 0 0, .slice none 0 0, .slice none 0 0, .slice none 0 0, .slice none 0 0, .slice none 0 0, .slice none 0 0, .slice none 0 0, .slice none 0 0, .slice none 0 0, .slice none 0 0, .slice none 0 0, .slice none 0 0, .slice none 0 0, .slice none 0 0, .slice none 0 0, .slice none 0 0, .slice none 0 0, .slice none 0 0, .slice none 0 0, .slice none 0 0, .slice none 0 0, .slice none 0 0, .slice none 0 0, .slice none 0 0, .slice none 0 0, .slice none 0 0, .slice none 0 0, .slice none 0 0, .slice none 0 0, .slice none 0 0, .slice none 0 0, .slice none 0 0, .slice none 0 0, .slice none 0 0, .slice none 0 0, .slice none 0 0, .slice none 0 0, .slice none 0 0, .slice none 0 0, .slice none 0 0, .slice none 0 0, .slice none 0 0, .slice none 0 0] 104)).rowIs w.heap.size 67 1 (fun _ => .pointer (some ⟨gb, 0, none⟩)) := (World.rowIs_alloc w _ _ _ (fun i hi => by match i, hi with | 0, _ => rfl)).alloc _
  have ra := a61_row (w.alloc (Obj.cells #[.pointer (some ⟨gb, 0, none⟩)] 67))
  rw [show (w.alloc (Obj.cells #[.pointer (some ⟨gb, 0, none⟩)] 67)).heap.size = w.heap.size + 1 by simp] at ra
  have HU := Lib.hid (unbound_any n gb n1 n2 _ (kept1 g0 bX))
  go_enter Tryz.func34, Tryz.ntmps34
  go_wp2_with fail
  generalize ((w.alloc (Obj.cells #[.pointer (some ⟨gb, 0, none⟩)] 67)).alloc (Obj.cells #[.slice none 0 0, .slice none 0 0, .slice none 0 0, .slice none 0 0, .slice none 0 0, .slice none 0 0, .slice none 0 0, .slice none 0 0, .slice none 0 0, .slice none 0 0, .slice none 0 0, .slice none 0 0, .slice none 0 0, .slice none 0 0, .slice none 0 0, .slice none 0 0, .slice none 0 0, .slice none 0 0, .slice none 0 0, .slice none 0 0, .slice none 0 0, .slice none 0 0, .slice none 0 0, .slice none 0 0, .slice none 0 0, .slice none 0 0, .slice none 0 0, .slice none 0 0, .slice none 0 0, .slice none 0 0, .slice none 0 0, .slice none 0 0, .slice none 0 0, .slice none 0 0, .slice none 0 0, .slice none 0 0, .slice none 0 0, .slice none 0 0, .slice none 0 0, .slice none 0 0, .slice none 0 0, .slice none 0 0, .slice none 0 0, .slice none 0 0, .slice none 0 0, .slice none 0 0, .slice none 0 0, .slice none 0 0, .slice none 0 0, .slice none 0 0, .slice none 0 0, .slice none 0 0, .slice none 0 0, .slice none 0 0, .slice none 0 0, .slice none 0 0, .slice none 0 0, .slice none 0 0, .slice none 0 0, .slice none 0 0, .slice none 0 0] 104)) = X at *
  refine HU.out.mono ?_
  rintro e w1 ⟨sb, h1, rfl, hr, hB⟩
  have ra1 := Lib.hid (ra.of_block (hB.block _ ra.lt))
  have rb1 := Lib.hid (rb.of_block (hB.block _ rb.lt))
  have c0 := ra1.out.cell (i := 0) (by omega)
  have cf := ra1.out.frozen 0
  have hsz := bX.size
  have lra := ra.lt
  have lrb := rb.lt
  have nes : sb ≠ w.heap.size + 1 := by omega
  have nes2 : sb ≠ w.heap.size := by omega
  have r1 := hr.setOther (a := ⟨w.heap.size + 1, 0, none⟩) nes (.slice (some ⟨sb, 0, none⟩) n n)
  have q0 := r1.cell (i := v) hv
  have qf := r1.frozen v
  have a1 := Lib.hid (ra1.out.set 0 (.slice (some ⟨sb, 0, none⟩) n n))
  have q1 := a1.out.cell (i := 0) (by omega)
  have b1 := Lib.hid (rb1.out.setOther (a := ⟨w.heap.size + 1, 0, none⟩) (by simp) (.slice (some ⟨sb, 0, none⟩) n n))
  have r2 := Lib.hid (r1.set v (.int .i64 0))
  have a2 := Lib.hid (a1.out.setOther (a := ⟨sb, v, none⟩) nes.symm (.int .i64 0))
  have b2 := Lib.hid (b1.out.setOther (a := ⟨sb, v, none⟩) nes2.symm (.int .i64 0))
  have hB2 : Below w.heap.size w ((w1.setCell ⟨w.heap.size + 1, 0, none⟩ (.slice (some ⟨sb, 0, none⟩) n n)).setCell ⟨sb, v, none⟩ (.int .i64 0)) := ((bX.trans (hB.mono hsz)).setCell (by simp) _).setCell (by show w.heap.size ≤ sb; omega) _
  have sb2 : w.heap.size ≤ sb := by omega
  have hsb := r2.out.lt
  have hv1 : (v : Int) < (n : Int) := by omega
  have hv0 : (0 : Int) ≤ (v : Int) := by omega
  rw [if_pos rfl] at q1
  clear hr r1 HU hB ra rb
  go_wp2
  go_ret
  have eY : ((w1.setCell ⟨w.heap.size + 1, 0, none⟩ (.slice (some ⟨sb, 0, none⟩) n n)).setCell ⟨sb, v, none⟩ (.int .i64 0)).heap.size = w1.heap.size := by simp
  generalize (w1.setCell ⟨w.heap.size + 1, 0, none⟩ (.slice (some ⟨sb, 0, none⟩) n n)).setCell ⟨sb, v, none⟩ (.int .i64 0) = Y at *
  have ly := a2.out.lt
  refine ⟨Y.heap.size, _, _, fun _ => sb, by rw [eY]; rfl, ⟨World.rowIs_alloc Y _ _ _ (fun i hi => by match i, hi with | 0, _ => rfl), b2.out.alloc _, ⟨_, a2.out.alloc _, fun i hi => if_pos (by omega)⟩, fun i hi => ⟨_, r2.out.alloc _, fun j hj => ?_⟩, fun i _ => by omega, hB2.size, by omega, Nat.le_refl _, fun _ _ => sb2, by omega, by omega, by omega, fun _ _ => nes⟩, hB2.alloc hB2.size _⟩
  obtain rfl : i = 0 := by omega
  show (if j = v then Value.int .i64 0 else .int .i64 1152921504606846976) = .int .i64 (((Ch.unbound n).set v 0).getD j 0)
  rw [un_get hj]
  split <;> rfl
end Go.Proofs.YtemacokojdeimaaGreatDoor

/- Contracts of package chain: firstChain. -/
namespace Go.Proofs.YtemacokojdeimaaGreatDoor
open Go.RowKit

set_option maxRecDepth 100000 in
set_option maxHeartbeats 2000000 in
theorem can_any (fb rb mb sb n cap : Nat) (s : List Int) (u most : Int) (hm1 : -2305843009213693952 ≤ most) (hm2 : most ≤ 2305843009213693952) (l : Ch.Lk) (hl : Hid (Ch.okLk n l = true)) (w : World) (f : Nat → Value) (hr : Hid (w.rowIs sb 3 n f)) (hf : Hid (∀ i, i < n → f i = .int .i64 (s.getD i 0)))
    (c1 : w.cell? ⟨fb, 0, none⟩ = some (.int .i64 u)) (c2 : w.cell? ⟨rb, 0, none⟩ = some (.slice (some ⟨sb, 0, none⟩) n cap)) (c3 : w.cell? ⟨mb, 0, none⟩ = some (.int .i64 most)) :
    Calls Tryz.prog 62 #[.agg #[.int .i64 l.f, .int .i64 l.t, .int .i64 l.m], .pointer (some ⟨fb, 0, none⟩), .pointer (some ⟨rb, 0, none⟩), .pointer (some ⟨mb, 0, none⟩)] w fun e w' => e = .returned (.bool (Ch.canLk s u most l)) ∧ Below w.heap.size w w' := by
  obtain ⟨f', t', m'⟩ := l
  have hok := Ch.okLk_spec hl.out
  simp only at hok
  obtain ⟨_, _, o3, o4, _, o6, o7⟩ := hok
  obtain ⟨t, rfl⟩ : ∃ k : Nat, t' = (k : Int) := ⟨t'.toNat, by omega⟩
  have ht : t < n := by omega
  have hcs := hr.out.cell ht
  rw [hf.out t ht] at hcs
  obtain ⟨b, hb⟩ : ∃ b, Ch.canLk s u most ⟨f', (t : Int), m'⟩ = b := ⟨_, rfl⟩
  rw [hb]
  unfold Ch.canLk at hb
  simp only [Int.toNat_natCast] at hb
  obtain ⟨z, hz⟩ : ∃ z, s.getD t 0 = z := ⟨_, rfl⟩
  rw [hz] at hcs
  simp only [hz] at hb
  dsimp only
  clear hz hl
  have hw : IntKind.i64.wrap (most - m') = most - m' := wrap_ok (by omega) (by omega)
  have x0 : (w.alloc (Obj.cells #[.int .i64 f', .int .i64 (t : Int), .int .i64 m'] 54)).cell? ⟨w.heap.size, 0, none⟩ = some (.int .i64 f') := by simp [go_sem]
  have x1 : (w.alloc (Obj.cells #[.int .i64 f', .int .i64 (t : Int), .int .i64 m'] 54)).cell? ⟨w.heap.size, 1, none⟩ = some (.int .i64 (t : Int)) := by simp [go_sem]
  have x2 : (w.alloc (Obj.cells #[.int .i64 f', .int .i64 (t : Int), .int .i64 m'] 54)).cell? ⟨w.heap.size, 2, none⟩ = some (.int .i64 m') := by simp [go_sem]
  have y1 := cell_alloc c1 (Obj.cells #[.int .i64 f', .int .i64 (t : Int), .int .i64 m'] 54)
  have y2 := cell_alloc c2 (Obj.cells #[.int .i64 f', .int .i64 (t : Int), .int .i64 m'] 54)
  have y3 := cell_alloc c3 (Obj.cells #[.int .i64 f', .int .i64 (t : Int), .int .i64 m'] 54)
  have ys := cell_alloc hcs (Obj.cells #[.int .i64 f', .int .i64 (t : Int), .int .i64 m'] 54)
  have hB := below_alloc (Below.refl w.heap.size w) (Obj.cells #[.int .i64 f', .int .i64 (t : Int), .int .i64 m'] 54)
  have i1 : (0 : Int) ≤ (t : Int) := by omega
  have i2 : (t : Int) < (n : Int) := by omega
  clear c1 c2 c3 hcs hr hf
  by_cases he : f' = u
  · subst he
    have hb2 : decide (z ≤ most - m') = b := by simpa using hb
    subst hb2
    clear hb
    have hgd : (f' == f') = true := by simp
    go_enter Tryz.func62, Tryz.ntmps62
    go_wp2_with fail
    generalize w.alloc (Obj.cells #[.int .i64 f', .int .i64 (t : Int), .int .i64 m'] 54) = X at *
    go_quiet (fail)
    go_wp2
    go_ret
    exact ⟨rfl, below_drewN hB _⟩
  · have hgd : (f' == u) = false := by rw [beq_eq_false_iff_ne]; exact he
    rw [hgd, Bool.false_and] at hb
    subst hb
    go_enter Tryz.func62, Tryz.ntmps62
    go_wp2_with fail
    generalize w.alloc (Obj.cells #[.int .i64 f', .int .i64 (t : Int), .int .i64 m'] 54) = X at *
    go_quiet (fail)
    go_wp2
    go_ret
    exact ⟨rfl, below_drewN hB _⟩

set_option maxRecDepth 100000 in
set_option maxHeartbeats 2000000 in
/-- IndexFunc over links, any function that only makes memory of its own -/
theorem index_any (fb rb mb : Nat) (p : Ch.Lk → Bool) (a : Option Addr) (cap : Nat) (L : List Ch.Lk) (m : Nat) (hm : Hid (L.length = m)) (hm3 : m ≤ 300) (w : World) (hL : Hid (LksAt w a L))
    (HP : Hid (∀ (W : World) (j : Nat), Below w.heap.size w W → j < L.length → Calls Tryz.prog 62 #[.agg #[.int .i64 (L.getD j Ch.noLk).f, .int .i64 (L.getD j Ch.noLk).t, .int .i64 (L.getD j Ch.noLk).m], .pointer (some ⟨fb, 0, none⟩), .pointer (some ⟨rb, 0, none⟩), .pointer (some ⟨mb, 0, none⟩)] W fun e w' => e = .returned (.bool (p (L.getD j Ch.noLk))) ∧ Below W.heap.size W w'))
    (R : Option Nat) (hR : Hid (Ch.idx p L 0 = R)) :
    Calls Tryz.prog 61 #[.slice a m cap, .func (.func 62) #[] #[.pointer (some ⟨fb, 0, none⟩), .pointer (some ⟨rb, 0, none⟩), .pointer (some ⟨mb, 0, none⟩)]] w fun e w' => e = .returned (.int .i64 (match R with | some i => (i : Int) | none => -1)) ∧ Below w.heap.size w w' := by
  go_enter Tryz.func61, Tryz.ntmps61
  go_wp2
  go_loopw [8] (fun i wr => ∃ k : Nat, k ≤ m ∧ i = .int .i64 k ∧ Below w.heap.size w wr ∧ Hid (Ch.idx p (L.drop k) k = R)) (fun i _ => m - (RowKit.intOf i).toNat)
  case atStart => exact ⟨0, Nat.zero_le _, rfl, Below.refl _ _, hR⟩
  case round =>
    obtain ⟨k, hk, rfl, hb, hidx⟩ := hrel
    by_cases hlt : k < m
    · have hkL : k < L.length := by have := hm.out; omega
      obtain ⟨x, rfl, hl3⟩ := hL.out k hkL
      have ⟨g0, g1, g2⟩ := hl3.below hb
      have hst := Ch.idx_step (p := p) hkL
      have HV := HP.out wr k hb hkL
      obtain ⟨f', t', mo', hlk⟩ : ∃ f t mo, L.getD k Ch.noLk = ⟨f, t, mo⟩ := ⟨_, _, _, rfl⟩
      rw [hlk] at g0 g1 g2 HV hst
      obtain ⟨b, hbb⟩ : ∃ b, p ⟨f', t', mo'⟩ = b := ⟨_, rfl⟩
      rw [hbb] at HV hst
      simp only at g0 g1 g2 HV
      replace HV := Lib.hid HV
      replace hst := Lib.hid hst
      clear hl3 hlk hbb
      have hi5 : (k : Int) < (m : Int) := by omega
      cases b
      · go_wp2_with fail
        refine HV.out.mono ?_
        rintro e w1 ⟨rfl, hb1⟩
        have hb2 := hb.trans (hb1.mono hb.size)
        clear hb1 hb HV
        go_wp2
        go_roundw
        case rel => exact ⟨k + 1, by omega, by go_num, hb2, Lib.hid (by have h := hidx.out; rw [hst.out] at h; simpa using h)⟩
        case measure => show m - ((k : Int) + 1).toNat < m - (k : Int).toNat; omega
      · have hR9 : R = some k := by
          have h := hidx.out
          rw [hst.out] at h
          simpa using h.symm
        subst hR9
        go_wp2_with fail
        refine HV.out.mono ?_
        rintro e w1 ⟨rfl, hb1⟩
        have hb2 := hb.trans (hb1.mono hb.size)
        clear hb1 hb HV
        go_wp2
        go_ret
        exact ⟨rfl, hb2⟩
    · obtain rfl : k = m := by omega
      have hi5 : ¬ (k : Int) < (k : Int) := by omega
      have h9 : R = none := by
        have h := hidx.out
        rw [List.drop_eq_nil_of_le (by have := hm.out; omega)] at h
        exact h.symm
      subst h9
      go_wp2
      go_ret
      exact ⟨rfl, hb⟩

theorem owns_base {w : World} {base base' : Nat} {e : TypeId} {size : Nat} {v : Value} {n : Nat} {xs : List Value} (h : w.ownsRow base e size v n xs) (hb : base' ≤ base) : w.ownsRow base' e size v n xs := by
  obtain ⟨h1, h2⟩ := h
  refine ⟨h1, ?_⟩
  rcases h2 with h2 | ⟨g, cap, cur, h3, h4, h5⟩
  · exact .inl h2
  · exact .inr ⟨g, cap, cur, h3, Nat.le_trans hb h4, h5⟩
theorem owns_but {T : Nat → Prop} {W W' : World} {base n size : Nat} {e : TypeId} {v : Value} {xs : List Value} (h : W.ownsRow base e size v n xs) (hb : But T W W') (hT : ∀ g, v.ownBlock = some g → ¬ T g) : W'.ownsRow base e size v n xs := by
  obtain ⟨h1, h2⟩ := h
  refine ⟨h1, ?_⟩
  rcases h2 with h2 | ⟨g, cap, cur, hv, hg, hc, hr⟩
  · exact .inl h2
  · refine .inr ⟨g, cap, cur, hv, hg, ?_, hr⟩
    rw [hb.block g (Array.getElem?_eq_some_iff.1 hc).1 (hT g (by rw [hv]; rfl))]
    exact hc
theorem owns_far {W : World} {base n size : Nat} {e : TypeId} {v : Value} {xs : List Value} (h : W.ownsRow base e size v n xs) {g : Nat} (hg : v.ownBlock = some g) : base ≤ g := by
  obtain ⟨_, h2⟩ := h
  rcases h2 with ⟨hv, _⟩ | ⟨g', cap, cur, hv, hb, _⟩
  · rw [hv] at hg; cases hg
  · rw [hv] at hg; cases hg; exact hb

/-- the world in firstChain -/
structure FC (w W : World) (H kb b2 ab gb n : Nat) (R : Nat → Nat) (S : Nat → List Int) (K : Nat) (u most : Int) (cv : Value) (pre : List Nat) : Prop where
  fb : W.rowIs w.heap.size 3 1 (fun _ => .int .i64 u)
  mb : W.rowIs (w.heap.size + 1) 3 1 (fun _ => .int .i64 most)
  ch : W.ownsRow (w.heap.size + 2) 3 1 cv pre.length (pre.map fun i : Nat => Value.int .i64 (i : Int))
  cs : CS W H kb b2 ab gb n R S K K
  bt : But (fun b => b = kb ∨ b = ab) w W
  kl : kb < w.heap.size
  al : ab < w.heap.size
  bl : b2 < w.heap.size
  rl : ∀ i, i ≤ K → R i < w.heap.size

theorem FC.far {w W W' : World} {H kb b2 ab gb n : Nat} {R : Nat → Nat} {S : Nat → List Int} {K : Nat} {u most : Int} {cv : Value} {pre : List Nat} {T : Nat → Prop} (h : FC w W H kb b2 ab gb n R S K u most cv pre) (hb : But T W W') (hT : ∀ k, T k → w.heap.size + 2 ≤ k) (hc : ∀ g, cv.ownBlock = some g → ¬ T g) : FC w W' H kb b2 ab gb n R S K u most cv pre := by
  have hk := h.kl
  have ha := h.al
  have h2 := h.bl
  refine ⟨hb.row h.fb (fun e => by have := hT _ e; omega), hb.row h.mb (fun e => by have := hT _ e; omega), owns_but h.ch hb hc, h.cs.but hb (fun e => by have := hT _ e; omega) (fun e => by have := hT _ e; omega) (fun e => by have := hT _ e; omega) (fun i hi e => by have := hT _ e; have := h.rl i hi; omega), ?_, h.kl, h.al, h.bl, h.rl⟩
  exact ⟨hb.os.trans h.bt.os, hb.tape.trans h.bt.tape, hb.output.trans h.bt.output, Nat.le_trans h.bt.size hb.size, fun k hk hn => (hb.block k (Nat.lt_of_lt_of_le hk h.bt.size) (fun e => by have := hT _ e; omega)).trans (h.bt.block k hk hn)⟩
theorem FC.below {w W W' : World} {H kb b2 ab gb n : Nat} {R : Nat → Nat} {S : Nat → List Int} {K : Nat} {u most : Int} {cv : Value} {pre : List Nat} (h : FC w W H kb b2 ab gb n R S K u most cv pre) (hb : Below W.heap.size W W') : FC w W' H kb b2 ab gb n R S K u most cv pre :=
  h.far (T := fun _ => False) ((But.of_below hb).mono (fun _ _ h => h)) (fun _ h => h.elim) (fun _ _ h => h)
theorem FC.push {w W W' : World} {H kb b2 ab gb n : Nat} {R : Nat → Nat} {S : Nat → List Int} {K : Nat} {u most : Int} {cv cv' : Value} {pre : List Nat} {i : Nat} (h : FC w W H kb b2 ab gb n R S K u most cv pre) (hg : W.grownBy W' cv.ownBlock) (ho : W'.ownsRow (w.heap.size + 2) 3 1 cv' (pre.length + 1) (pre.map (fun i : Nat => Value.int .i64 (i : Int)) ++ [.int .i64 (i : Int)])) : FC w W' H kb b2 ab gb n R S K u most cv' (pre ++ [i]) := by
  have hb : But (fun k => cv.ownBlock = some k) W W' := ⟨hg.os, hg.tape, hg.output, hg.size, fun k hk hn => hg.block k hk (fun e => hn e.symm)⟩
  have hT : ∀ k, cv.ownBlock = some k → w.heap.size + 2 ≤ k := fun k e => owns_far h.ch e
  have hk := h.kl
  have ha := h.al
  have h2 := h.bl
  refine ⟨hb.row h.fb (fun e => by have := hT _ e; omega), hb.row h.mb (fun e => by have := hT _ e; omega), by simpa using ho, h.cs.but hb (fun e => by have := hT _ e; omega) (fun e => by have := hT _ e; omega) (fun e => by have := hT _ e; omega) (fun i hi e => by have := hT _ e; have := h.rl i hi; omega), ?_, h.kl, h.al, h.bl, h.rl⟩
  exact ⟨hb.os.trans h.bt.os, hb.tape.trans h.bt.tape, hb.output.trans h.bt.output, Nat.le_trans h.bt.size hb.size, fun k hk hn => (hb.block k (Nat.lt_of_lt_of_le hk h.bt.size) (fun e => by have := hT _ e; omega)).trans (h.bt.block k hk hn)⟩
theorem FC.go {w W : World} {H kb b2 ab gb n : Nat} {R : Nat → Nat} {S : Nat → List Int} {K : Nat} {u most u' most' : Int} {cv : Value} {pre : List Nat} (h : FC w W H kb b2 ab gb n R S K u most cv pre) : FC w ((W.setCell ⟨w.heap.size, 0, none⟩ (.int .i64 u')).setCell ⟨w.heap.size + 1, 0, none⟩ (.int .i64 most')) H kb b2 ab gb n R S K u' most' cv pre := by
  have hb : But (fun k => k = w.heap.size ∨ k = w.heap.size + 1) W ((W.setCell ⟨w.heap.size, 0, none⟩ (.int .i64 u')).setCell ⟨w.heap.size + 1, 0, none⟩ (.int .i64 most')) := ((But.refl _ _).setCell (.inr (.inl rfl)) _).setCell (.inr (.inr rfl)) _
  have hk := h.kl
  have ha := h.al
  have h2 := h.bl
  refine ⟨((h.fb.set 0 (.int .i64 u')).setOther (a := ⟨w.heap.size + 1, 0, none⟩) (by simp) _).congr (fun i hi => if_pos (by omega)), ((h.mb.setOther (a := ⟨w.heap.size, 0, none⟩) (by simp) _).set 0 (.int .i64 most')).congr (fun i hi => if_pos (by omega)), owns_but h.ch hb (fun g hg => by have := owns_far h.ch hg; rintro (e | e) <;> omega), h.cs.but hb (by rintro (e | e) <;> omega) (by rintro (e | e) <;> omega) (by rintro (e | e) <;> omega) (fun i hi => by have := h.rl i hi; rintro (e | e) <;> omega), ?_, h.kl, h.al, h.bl, h.rl⟩
  exact ⟨hb.os.trans h.bt.os, hb.tape.trans h.bt.tape, hb.output.trans h.bt.output, Nat.le_trans h.bt.size hb.size, fun k hk hn => (hb.block k (Nat.lt_of_lt_of_le hk h.bt.size) (by rintro (e | e) <;> omega)).trans (h.bt.block k hk hn)⟩

theorem FC.su {w W W' : World} {H kb b2 ab gb n : Nat} {R R' : Nat → Nat} {S : Nat → List Int} {K : Nat} {u most : Int} {cv : Value} {pre : List Nat} (h : FC w W H kb b2 ab gb n R S K u most cv pre) (hb : But (fun b => b = kb ∨ b = ab) W W') (hc : CS W' H kb b2 ab gb n R' S K K) (hR : ∀ i, i ≤ K → R' i = R i) : FC w W' H kb b2 ab gb n R' S K u most cv pre := by
  have hk := h.kl
  have ha := h.al
  exact ⟨hb.row h.fb (by rintro (e | e) <;> omega), hb.row h.mb (by rintro (e | e) <;> omega), owns_but h.ch hb (fun g hg => by have := owns_far h.ch hg; rintro (e | e) <;> omega), hc, h.bt.trans hb, h.kl, h.al, h.bl, fun i hi => by rw [hR i hi]; exact h.rl i hi⟩
/-- what firstChain leaves -/
def FcPost (w : World) (kb ab : Nat) (l : List Nat) (e : Ending) (w' : World) : Prop :=
  ∃ v, e = .returned v ∧ w'.ownsRow w.heap.size 3 1 v l.length (l.map fun i : Nat => Value.int .i64 (i : Int)) ∧ But (fun b => b = kb ∨ b = ab) w w'

set_option maxRecDepth 100000 in
set_option maxHeartbeats 2000000 in
theorem firstChain_any (n gb v : Nat) (n1 : 1 ≤ n) (n2 : n ≤ 60) (L : List Ch.Lk) (drop : List Bool) (H kb b2 ab ib db m : Nat) (a : Option Addr) (cap0 : Nat) (V : Nat → Value) (R : Nat → Nat) (K k : Nat) (u most : Int) (hu : 0 ≤ u ∧ u < n) (hmost : -1152921504606846976 ≤ most ∧ most ≤ 1152921504606846976) (hk : k ≤ K) (hK : K ≤ 60) (l : List Nat) (hl : Hid (Ch.fst L (Ch.sumsTo n L drop v) k u most = some l)) (w : World) (G : Hid (Gr w H gb ib db n m a cap0 V L (fun i => drop.getD i false))) (hC : Hid (CS w H kb b2 ab gb n R (Ch.sumsTo n L drop v) K K)) :
    Calls Tryz.prog 35 #[.pointer (some ⟨gb, 0, none⟩), .int .i64 u, .int .i64 k, .int .i64 most, .func (.func 59) #[] #[.pointer (some ⟨kb, 0, none⟩), .pointer (some ⟨b2, 0, none⟩), .pointer (some ⟨ab, 0, none⟩)]] w (FcPost w kb ab l) := by
  have hmf : ∀ (fn : Fn) (first cap : Array Value) (w : World), (Instr.makeFunc fn first cap).run Tryz.prog w = .ok (.func fn first cap) w := fun _ _ _ _ => rfl
  obtain ⟨i0, hi, hz0, hz1, hz2⟩ := info_parts infoInt
  obtain ⟨A0, a01, a02⟩ := hC.out.a
  have hFC : FC w ((w.alloc (Obj.cells #[.int .i64 u] 3)).alloc (Obj.cells #[.int .i64 most] 3)) H kb b2 ab gb n R (Ch.sumsTo n L drop v) K u most (.slice none 0 0) [] := by
    have e1 : (w.alloc (Obj.cells #[.int .i64 u] 3)).heap.size = w.heap.size + 1 := by simp
    have r2 := World.rowIs_alloc (w.alloc (Obj.cells #[.int .i64 u] 3)) #[.int .i64 most] 3 (fun _ => .int .i64 most) (fun i hi => by match i, hi with | 0, _ => rfl)
    rw [e1] at r2
    exact ⟨(World.rowIs_alloc w #[.int .i64 u] 3 (fun _ => .int .i64 u) (fun i hi => by match i, hi with | 0, _ => rfl)).alloc _, r2, World.ownsRow_nil _ _ _ _, hC.out.below (below_alloc (below_alloc (Below.refl _ _) _) _), ((But.refl _ _).alloc _).alloc _, hC.out.k.lt, a01.lt, hC.out.b.lt, fun i hi => by obtain ⟨f, f1, _⟩ := hC.out.r i hi; exact f1.lt⟩
  replace hFC := Lib.hid hFC
  clear a01 a02
  go_enter Tryz.func35, Tryz.ntmps35
  go_wp2_with fail
  go_loopw [2, 11] (fun x cv wr => ∃ (j : Nat) (u' most' : Int) (pre rest : List Nat) (R' : Nat → Nat), j ≤ k ∧ x = .int .i64 (j : Int) ∧ 0 ≤ u' ∧ u' < n ∧ -1152921504606846976 - 4503599627370496 * ((k : Int) - j) ≤ most' ∧ most' ≤ 1152921504606846976 + 4503599627370496 * ((k : Int) - j) ∧ Hid (Ch.fst L (Ch.sumsTo n L drop v) j u' most' = some rest) ∧ Hid (l = pre ++ rest) ∧ Hid (pre.length + j = k) ∧ Hid (FC w wr H kb b2 ab gb n R' (Ch.sumsTo n L drop v) K u' most' cv pre)) (fun x _ _ => (RowKit.intOf x).toNat)
  case atStart => exact ⟨k, u, most, [], l, R, Nat.le_refl _, rfl, hu.1, hu.2, by omega, by omega, hl, Lib.hid rfl, Lib.hid (by simp), hFC⟩
  case round =>
    obtain ⟨j, u', most', pre, rest, R', hj, rfl, u1, u2, m1, m2, hfst, hlr, hpl, HF⟩ := hrel
    clear hFC
    cases j with
    | zero =>
      have hl0 : rest = [] := by have h := hfst.out; exact (Option.some.inj h).symm
      subst hl0
      have hlr2 : l = pre := by have h := hlr.out; simpa using h
      subst hlr2
      have hi5 : ¬ (0 : Int) < ((0 : Nat) : Int) := by omega
      go_wp2
      go_ret
      exact ⟨_, rfl, owns_base HF.out.ch (by omega), HF.out.bt⟩
    | succ j =>
      have hi5 : (0 : Int) < (j : Int) + 1 := by omega
      have Gw := Lib.hid (G.out.below (HF.out.bt.below G.out.hH (fun k hk e => by have := HF.out.cs.hk; have := HF.out.cs.ha; omega)))
      have HSu := Lib.hid (sums_any n gb v n1 n2 L drop H kb b2 ab ib db m a cap0 V R' K j (by omega) hK wr Gw (Lib.hid HF.out.cs))
      have hw1 : IntKind.i64.wrap (j : Int) = (j : Int) := wrap_ok (by omega) (by omega)
      go_wp2_with fail
      refine HSu.out.mono ?_
      rintro e w2 ⟨R2, rfl, hC2, hR2, hB2, _⟩
      rw [show max K j = K by omega] at hC2
      have HF2 := Lib.hid (HF.out.su hB2 hC2 hR2)
      have HF3 := Lib.hid (HF2.out.below ((Below.refl _ _).alloc (Nat.le_refl _) (Obj.cells #[.slice (some ⟨R2 j, 0, none⟩) n n] 41)))
      have rb0 : (w2.alloc (Obj.cells #[.slice (some ⟨R2 j, 0, none⟩) n n] 41)).cell? ⟨w2.heap.size, 0, none⟩ = some (.slice (some ⟨R2 j, 0, none⟩) n n) := by simp [go_sem]
      have G3 := Lib.hid (G.out.below (HF3.out.bt.below G.out.hH (fun k hk e => by have := HF3.out.cs.hk; have := HF3.out.cs.ha; omega)))
      have g1 := G3.out.g.cell (i := 1) (by omega)
      replace g1 : (w2.alloc (Obj.cells #[.slice (some ⟨R2 j, 0, none⟩) n n] 41)).cell? ⟨gb, 1, none⟩ = some (.slice a m cap0) := g1
      clear hC2 hB2 HSu Gw HF HF2
      go_upto_region 5 with fail
      have hXs : (w2.alloc (Obj.cells #[.slice (some ⟨R2 j, 0, none⟩) n n] 41)).heap.size = w2.heap.size + 1 := by simp
      generalize w2.alloc (Obj.cells #[.slice (some ⟨R2 j, 0, none⟩) n n] 41) = X at *
      generalize w2.heap.size = rb at *
      have hL3 : LksAt X a L := fun k hk => by obtain ⟨x, hx, _, h⟩ := G3.out.l k hk; exact ⟨x, hx, h⟩
      obtain ⟨f, f1, f2⟩ := HF3.out.cs.r j (by omega)
      have cf := HF3.out.fb.cell (i := 0) (by omega)
      have cm := HF3.out.mb.cell (i := 0) (by omega)
      have hok := G3.out.ok
      have hok3 := Lib.hid hok
      obtain ⟨i, hidx, hnext⟩ : ∃ i, Ch.idx (Ch.canLk (Ch.sumsTo n L drop v j) u' most') L 0 = some i ∧ (Ch.fst L (Ch.sumsTo n L drop v) j (L.getD i Ch.noLk).t (most' - (L.getD i Ch.noLk).m)).map (i :: ·) = some rest := by
        have h := hfst.out
        rw [Ch.fst] at h
        cases e : Ch.idx (Ch.canLk (Ch.sumsTo n L drop v j) u' most') L 0 with
        | none => rw [e] at h; cases h
        | some i => rw [e] at h; exact ⟨i, rfl, h⟩
      obtain ⟨rest', hr1, hr2⟩ := Option.map_eq_some_iff.1 hnext
      have hix := Ch.idx_some hidx
      have hiL : i < L.length := by omega
      replace hidx := Lib.hid hidx
      have HI := Lib.hid (index_any w.heap.size rb (w.heap.size + 1) (Ch.canLk (Ch.sumsTo n L drop v j) u' most') a cap0 L m (Lib.hid G3.out.hm) G3.out.m3 X (Lib.hid hL3) (Lib.hid fun W q hb hq =>
        can_any w.heap.size rb (w.heap.size + 1) (R2 j) n n (Ch.sumsTo n L drop v j) u' most' (by omega) (by omega) (L.getD q Ch.noLk) (Lib.hid (hok3.out q hq)) W f (Lib.hid (f1.of_block (hb.block _ f1.lt))) (Lib.hid f2) (kept1 cf hb) (kept1 rb0 hb) (kept1 cm hb)) (some i) hidx)
      replace hr1 := Lib.hid hr1
      replace hr2 := Lib.hid hr2
      clear hnext hok f1 f2 cf cm hfst hix
      go_wp2_with fail
      refine HI.out.mono ?_
      rintro e w3 ⟨rfl, hb3⟩
      have HF4 := Lib.hid (HF3.out.below hb3)
      have hsz3 := hb3.size
      clear HI hb3 HF3 G3 hL3 g1 rb0
      have hszw := HF4.out.bt.size
      have hown := HF4.out.ch
      have hlt1 := HF4.out.mb.lt
      go_wp2_with (first
        | (at_builtin; refine wpList_append_own _ rfl (.tmp 28) (.tmp 30) 41 rfl (w.heap.size + 2) 3 i0 (.int .i64 0) 1 8 Tryz.underlying41 hi hz0 hz1 hz2 rfl (by decide) _ _ _ rfl (hown.alloc _) ⟨w3.heap.size, 0, none⟩ 1 1 [.int .i64 (i : Int)] rfl rfl ?c1 ?c2 ?c3 ?c4 ?c5 ?_)
        | fail)
      case c1 =>
        intro j u hj
        match j, hj with
        | 0, hj => simp at hj; subst hj; simp [Addr.add]
      case c2 => intro u hu; simp at hu; subst hu; rfl
      case c3 => have := hpl.out; unfold maxLen; omega
      case c4 => have := hpl.out; omega
      case c5 => simp; omega
      intro v' w4 hown' hgrow hnn
      have HF5 := Lib.hid ((HF4.out.below ((Below.refl _ _).alloc (Nat.le_refl _) (Obj.cells #[.int .i64 (i : Int)] 3))).push hgrow hown')
      clear hown hown' hgrow hnn HF4 hlt1 hsz3 hszw
      have G5 := Lib.hid (G.out.below (HF5.out.bt.below G.out.hH (fun k hk e => by have := HF5.out.cs.hk; have := HF5.out.cs.ha; omega)))
      have g1 : w4.cell? ⟨gb, 1, none⟩ = some (.slice a m cap0) := G5.out.g.cell (i := 1) (by omega)
      obtain ⟨y, hy, _, hl3⟩ := G5.out.l i hiL
      subst hy
      have hok1 := Ch.okLk_spec (hok3.out i hiL)
      obtain ⟨f', t', mo', hlk⟩ : ∃ f t mo, L.getD i Ch.noLk = ⟨f, t, mo⟩ := ⟨_, _, _, rfl⟩
      obtain ⟨q0, q1, q2⟩ := hl3
      rw [hlk] at q0 q1 q2 hok1 hr1
      simp only at hok1 q0 q1 q2 hr1
      obtain ⟨_, _, o3, o4, _, o6, o7⟩ := hok1
      have cf := HF5.out.fb.cell (i := 0) (by omega)
      have cm := HF5.out.mb.cell (i := 0) (by omega)
      have ff := HF5.out.fb.frozen 0
      have fm := HF5.out.mb.frozen 0
      have him : (i : Int) < (m : Int) := by have := G5.out.hm; omega
      have hi0 : (0 : Int) ≤ (i : Int) := by omega
      have HF6 := Lib.hid ((FC.go (u' := t') (most' := most' - mo') HF5.out).below (Below.refl _ _).drew)
      have hw2 : IntKind.i64.wrap (most' - mo') = most' - mo' := wrap_ok (by omega) (by omega)
      clear G5 HF5 hlk
      go_upto_region 7 with fail
      go_region
      go_wp2
      go_roundw
      case rel => exact ⟨j, t', most' - mo', pre ++ [i], rest', R2, by omega, rfl, o3, o4, by omega, by omega, hr1, Lib.hid (by rw [hlr.out, ← hr2.out, List.append_assoc]; rfl), Lib.hid (by have := hpl.out; simp; omega), HF6⟩
      case measure => show (j : Int).toNat < ((j : Int) + 1).toNat; omega
end Go.Proofs.YtemacokojdeimaaGreatDoor

/- Contracts of package chain: Chain. -/
namespace Go.Proofs.YtemacokojdeimaaGreatDoor
open Go.RowKit

/-- a list of indices of its own, and an error -/
def ChPost (w : World) (l : List Nat) (ec : Int) (e : Ending) (w' : World) : Prop :=
  ∃ v, e = .returned (.tuple #[v, .int .i64 ec]) ∧ w'.ownsRow w.heap.size 3 1 v l.length (l.map fun i : Nat => Value.int .i64 (i : Int)) ∧ Below w.heap.size w w'

set_option maxRecDepth 100000 in
set_option maxHeartbeats 4000000 in
theorem chain_any (n : Int) (a : Option Addr) (cap : Nat) (L : List Ch.Lk) (u v : Int) (k : Nat) (hE : (Ch.check n L).1 = 0 → Ch.enough n.toNat L [] k = true) (l : List Nat) (er : Int) (hR : Ch.chain n L k u v = some (l, er)) (w : World) (hL : LksAt w a L) :
    Calls Tryz.prog 15 #[sysV n a L.length cap, .int .i64 u, .int .i64 v] w (ChPost w l er) := by
  have hB0 : Below w.heap.size w ((w.alloc (Obj.cells #[.int .i64 n, .slice a L.length cap] 24)).alloc (Obj.cells #[.int .i64 u, .int .i64 v] 3)) := below_alloc (below_alloc (Below.refl _ _) _) _
  have hI := intsAt_two (w.alloc (Obj.cells #[.int .i64 n, .slice a L.length cap] 24)) 3 u v
  have HO := open_any n a cap L (some ⟨w.heap.size + 1, 0, none⟩) 2 [u, v] (by simp) k hE _ (hL.below hB0) (by simpa using hI)
  obtain ⟨ec, hec⟩ : ∃ ec, Ch.opn n L [u, v] k = ec := ⟨_, rfl⟩
  have hok := Ch.opn_ok (n := n) (L := L) (l := [u, v]) (k := k)
  unfold Ch.chain at hR
  rw [hec] at HO hok hR
  replace hR := Lib.hid hR
  replace HO := Lib.hid HO
  replace hok := Lib.hid hok
  unfold sysV at *
  clear hI hec
  go_enter Tryz.func15, Tryz.ntmps15
  go_wp2_with fail
  refine HO.out.mono ?_
  rintro e w1 ⟨hb, h⟩
  have hB := hB0.trans (hb.mono (by simp; omega))
  clear hb hB0 HO
  rcases h with ⟨hne, rfl⟩ | ⟨rfl, gb, ib, db, V, hge, rfl, hG, hAp, hdb0⟩
  · have h := hR.out
    rw [if_pos hne] at h
    obtain ⟨rfl, rfl⟩ := Prod.mk.inj (Option.some.inj h)
    clear hR h
    go_wp2
    go_ret2
    exact ⟨_, rfl, World.ownsRow_nil _ _ _ _, hB⟩
  · have hrr := hR.out
    rw [if_neg (by simp)] at hrr
    obtain ⟨hc0, hall, hcon⟩ := hok.out rfl
    have hE2 := hE hc0
    obtain ⟨n1, n2, _⟩ := Ch.check_ok hc0
    obtain ⟨N, rfl⟩ : ∃ N : Nat, n = (N : Int) := ⟨n.toNat, by omega⟩
    simp [Ch.isIx] at hall
    obtain ⟨⟨u1, u2⟩, v1, v2⟩ := hall
    obtain ⟨p, rfl⟩ : ∃ p : Nat, u = (p : Int) := ⟨u.toNat, by omega⟩
    obtain ⟨q, rfl⟩ : ∃ q : Nat, v = (q : Int) := ⟨v.toNat, by omega⟩
    simp only [Int.toNat_natCast] at *
    obtain ⟨hbt, _, hbd⟩ := Ch.enough_bt hE2 hcon (v := q) (by omega)
    have hbz := hbd p (by omega)
    have HB := Lib.hid (boundsTo_any N gb (by omega) (by omega) q (by omega) L [] k _ (Lib.hid hbt) _ ib db _ a cap V w1 (Lib.hid hG))
    obtain ⟨S, hS⟩ : ∃ S, Ch.bt N L [] k q = S := ⟨_, rfl⟩
    rw [hS] at HB hrr hbz
    clear hS hE2 hcon hc0 hok hE hbt hR hbd
    obtain ⟨z, hz⟩ : ∃ z, S.getD p 0 = z := ⟨_, rfl⟩
    rw [hz] at hrr hbz
    replace hrr := Lib.hid hrr
    replace hz := Lib.hid hz
    replace hG := Lib.hid hG
    have p2 : (p : Int) < (N : Int) := by omega
    go_wp2_with fail
    refine HB.out.mono ?_
    rintro e w2 ⟨sb, hsb, hb, rfl, hr⟩
    obtain ⟨f, hr1, hr2⟩ := hr S rfl
    have hc := hr1.cell (i := p) (by omega)
    rw [hr2 p (by omega), hz.out] at hc
    have hB2 := hB.trans (hb.mono hB.size)
    have hG2 := Lib.hid (hG.out.below hb)
    clear hb hr hr1 hr2 HB hG
    by_cases h9 : z = 1152921504606846976
    · subst h9
      have h := hrr.out
      unfold Ch.free at h
      rw [if_pos rfl] at h
      obtain ⟨rfl, rfl⟩ := Prod.mk.inj (Option.some.inj h)
      clear hrr h
      go_wp2
      go_ret2
      exact ⟨_, rfl, World.ownsRow_nil _ _ _ _, hB2⟩
    · have h := hrr.out
      unfold Ch.free at h
      rw [if_neg h9] at h
      have h9' : (z == 1152921504606846976) = false := by rw [beq_eq_false_iff_ne]; exact h9
      obtain ⟨t, ht, hfs⟩ : ∃ t, Ch.lnk (Ch.sumsTo N L [] q) p z 61 0 = some t ∧ Ch.fst L (Ch.sumsTo N L [] q) t p z = some l ∧ er = 0 := by
        cases e : Ch.lnk (Ch.sumsTo N L [] q) p z 61 0 with
        | none => rw [e] at h; cases h
        | some t =>
          rw [e] at h
          obtain ⟨l', h1, h2⟩ := Option.map_eq_some_iff.1 h
          obtain ⟨rfl, rfl⟩ := Prod.mk.inj h2
          exact ⟨t, rfl, h1, rfl⟩
      obtain ⟨hfs, rfl⟩ := hfs
      have htl := Ch.lnk_le ht
      replace ht := Lib.hid ht
      replace hfs := Lib.hid hfs
      clear h hrr hz
      have HS := Lib.hid (sumsTo_any N gb (by omega) (by omega) q (by omega) L [] w2 (hG2.out.g.cell (i := 0) (by omega)))
      go_wp2_with fail
      refine HS.out.mono ?_
      rintro e w3 ⟨kb, b2, ab, R, rfl, hC, hb3⟩
      have hG3 := Lib.hid ((hG2.out.high.below hb3))
      have hB3 := hB2.trans (hb3.mono hB2.size)
      replace hC := Lib.hid hC
      have hsz2 := hB2.size
      clear HS hb3 hG2 hB2
      go_wp2
      go_loopw [12] (fun x wr => ∃ (j : Nat) (R' : Nat → Nat), j ≤ t ∧ x = .int .i64 (j : Int) ∧ Hid (Ch.lnk (Ch.sumsTo N L [] q) p z (61 - j) j = some t) ∧ Hid (CS wr w2.heap.size kb b2 ab gb N R' (Ch.sumsTo N L [] q) (j - 1) (j - 1)) ∧ Hid (But (fun b => b = kb ∨ b = ab) w3 wr)) (fun x _ => t - (RowKit.intOf x).toNat)
      case atStart => exact ⟨0, R, Nat.zero_le _, rfl, ht, hC, Lib.hid (But.refl _ _)⟩
      case round =>
        clear hC
        obtain ⟨j, R', hj, rfl, hln, hC, hbt⟩ := hrel
        have Gw := Lib.hid (hG3.out.below (hbt.out.below hG3.out.hH (fun k hk e => by have := hC.out.hk; have := hC.out.ha; omega)))
        have HSu := Lib.hid (sums_any N gb q (by omega) (by omega) L [] w2.heap.size kb b2 ab ib db _ a cap V R' (j - 1) j (by omega) (by omega) wr Gw (Lib.hid hC.out))
        have hst : Ch.lnk (Ch.sumsTo N L [] q) p z (61 - j) j = if (Ch.sumsTo N L [] q j).getD p 0 = z then some j else Ch.lnk (Ch.sumsTo N L [] q) p z (61 - (j + 1)) (j + 1) := by
          rw [show 61 - j = (61 - (j + 1)) + 1 by omega, Ch.lnk]
        rw [hln.out] at hst
        obtain ⟨y, hy⟩ : ∃ y, (Ch.sumsTo N L [] q j).getD p 0 = y := ⟨_, rfl⟩
        rw [hy] at hst
        replace hst := Lib.hid hst
        replace hy := Lib.hid hy
        clear hC
        go_wp2_with fail
        refine HSu.out.mono ?_
        rintro e w4 ⟨R2, rfl, hC4, hR4, hB4, _⟩
        rw [show max (j - 1) j = j by omega] at hC4
        have hbt4 := Lib.hid (hbt.out.trans hB4)
        obtain ⟨g, g1, g2⟩ := hC4.r j (Nat.le_refl _)
        have cy := g1.cell (i := p) (by omega)
        rw [g2 p (by omega), hy.out] at cy
        replace hC4 := Lib.hid hC4
        clear HSu Gw hB4 g1 g2 hR4 hbt
        by_cases hyz : y = z
        · subst hyz
          have hjt : t = j := by
            have h := hst.out
            rw [if_pos rfl] at h
            exact Option.some.inj h
          subst hjt
          have hne : (y != y) = false := by simp
          have G4 := Lib.hid (hG3.out.below (hbt4.out.below hG3.out.hH (fun k hk e => by have := hC4.out.hk; have := hC4.out.ha; omega)))
          have HFC := Lib.hid (firstChain_any N gb q (by omega) (by omega) L [] w2.heap.size kb b2 ab ib db _ a cap V R2 t t (p : Int) y ⟨by omega, by omega⟩ hbz (Nat.le_refl _) (by omega) l hfs w4 G4 hC4)
          have hkb : w.heap.size ≤ kb ∧ w.heap.size ≤ ab := ⟨Nat.le_trans hsz2 hC4.out.hk, Nat.le_trans hsz2 hC4.out.ha⟩
          clear hC4
          go_wp2_with fail
          refine HFC.out.mono ?_
          rintro e w5 ⟨cv, rfl, hown, hB5⟩
          have hB6 : Below w.heap.size w w5 := hB3.trans ((hbt4.out.trans hB5).below hB3.size (fun k hk e => by omega))
          have hsz5 : w.heap.size ≤ w4.heap.size := Nat.le_trans hB3.size hbt4.out.size
          clear HFC hB5
          replace hown := Lib.hid hown
          go_wp2
          go_ret2
          exact ⟨_, rfl, owns_base hown.out hsz5, hB6⟩
        · have hne : (y != z) = true := by rw [bne_iff_ne]; exact hyz
          have hln2 : Hid (Ch.lnk (Ch.sumsTo N L [] q) p z (61 - (j + 1)) (j + 1) = some t) := Lib.hid (by
            have h := hst.out
            rw [if_neg hyz] at h
            exact h.symm)
          have hj2 := Ch.lnk_le hln2.out
          clear hst
          go_wp2
          go_roundw
          case rel => exact ⟨j + 1, R2, by omega, by go_num, hln2, Lib.hid hC4.out, hbt4⟩
          case measure => show t - ((j : Int) + 1).toNat < t - (j : Int).toNat; omega
end Go.Proofs.YtemacokojdeimaaGreatDoor
