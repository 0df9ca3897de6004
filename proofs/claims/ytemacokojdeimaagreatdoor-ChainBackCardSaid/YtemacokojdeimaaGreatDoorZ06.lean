/- What the claims of layer 2 share, part 6: several texts one behind the other. -/
import Derived.BigQuiet
import Derived.WalkMore
import Derived.Laws.EntriesVeiled
import Derived.Lib.SliceRun
import Derived.Laws.AppendOwnNone
import Derived.RangeFuncBox
import Derived.Test.YtemacokojdeimaaGreatDoorZ05
set_option linter.unusedSimpArgs false
set_option linter.unusedVariables false
/- Contracts of package chain: hasTwin, spares, solvableWithout. -/
namespace Go.Proofs.YtemacokojdeimaaGreatDoor
open Go.RowKit

theorem lk_held : Tryz.prog.stoodInHeld 54 = false := by kernel_rfl
theorem lk_guard : Tryz.prog.eqGuardType Tryz.prog.depth 54 = false := by kernel_rfl
theorem int_held : Tryz.prog.stoodInHeld 3 = false := by kernel_rfl
theorem run_eql_lk (f t m f' t' m' : Int) (w : World) : (binOp .eql 54 (.agg #[.int .i64 f, .int .i64 t, .int .i64 m]) (.agg #[.int .i64 f', .int .i64 t', .int .i64 m'])).run Tryz.prog w = .ok (.bool (Ch.sameLk ⟨f, t, m⟩ ⟨f', t', m'⟩)) w := by
  rw [run_eql_struct, run_equalIn_agg _ _ _ _ _ (by simp only [Program.fieldsOf, Tryz.underlying54]) lk_held]
  simp only [Program.fieldsOf, Tryz.underlying54]
  unfold Ch.sameLk
  by_cases h1 : f = f'
  · by_cases h2 : t = t'
    · by_cases h3 : m = m'
      · simp [Op.eqFields, go_sem, h1, h2, h3]
      · simp [Op.eqFields, go_sem, h1, h2, h3]
    · simp [Op.eqFields, go_sem, h1, h2]
  · simp [Op.eqFields, go_sem, h1]

set_option maxRecDepth 100000 in
set_option maxHeartbeats 4000000 in
theorem hasTwin_any (n gb H ib db m : Nat) (a : Option Addr) (cap0 : Nat) (V : Nat → Value) (L : List Ch.Lk) (drop : List Bool) (q : Nat) (hq : q < m) (w : World) (G : Hid (Gr w H gb ib db n m a cap0 V L (fun i => drop.getD i false))) (b : Bool) (hb : Hid (Ch.twin drop q (L.getD q Ch.noLk) L 0 = b)) :
    Calls Tryz.prog 47 #[.pointer (some ⟨gb, 0, none⟩), .int .i64 (q : Int)] w fun e w' => e = .returned (.bool b) ∧ Below w.heap.size w w' := by
  have hm := G.out.hm
  have hm3 := G.out.m3
  obtain ⟨y, hy, _, lq⟩ := G.out.l q (by omega)
  subst hy
  have c1 : w.cell? ⟨gb, 1, none⟩ = some (.slice (some y) m cap0) := G.out.g.cell (i := 1) (by omega)
  obtain ⟨fq, tq, mq, hlq⟩ : ∃ f t mo, L.getD q Ch.noLk = ⟨f, t, mo⟩ := ⟨_, _, _, rfl⟩
  rw [hlq] at hb lq
  obtain ⟨lq0, lq1, lq2⟩ := lq
  simp only at lq0 lq1 lq2
  replace lq0 := Lib.hid lq0
  replace lq1 := Lib.hid lq1
  replace lq2 := Lib.hid lq2
  have hq1 : (q : Int) < (m : Int) := by omega
  have hq0 : (0 : Int) ≤ (q : Int) := by omega
  go_enter Tryz.func47, Tryz.ntmps47
  go_wp2
  go_loopw [12] (fun i wr => ∃ k : Nat, k ≤ m ∧ i = .int .i64 k ∧ Hid (Below w.heap.size w wr) ∧ Hid (Ch.twin drop q ⟨fq, tq, mq⟩ (L.drop k) k = b)) (fun i _ => m - (RowKit.intOf i).toNat)
  case atStart => exact ⟨0, Nat.zero_le _, rfl, Lib.hid (Below.refl _ _), hb⟩
  case round =>
    obtain ⟨k, hk, rfl, hbt, htw⟩ := hrel
    by_cases hlt : k < m
    · obtain ⟨y', hy', _, lk⟩ := G.out.l k (by omega)
      obtain rfl := Option.some.inj hy'
      have hst := Ch.twin_step (D := drop) (q := q) (lq := ⟨fq, tq, mq⟩) (L := L) (k := k) (by omega)
      rw [htw.out] at hst
      obtain ⟨f', t', mo', hlk⟩ : ∃ f t mo, L.getD k Ch.noLk = ⟨f, t, mo⟩ := ⟨_, _, _, rfl⟩
      have ⟨g0, g1, g2⟩ := lk.below hbt.out
      rw [hlk] at g0 g1 g2 hst
      simp only at g0 g1 g2
      have hi5 : (k : Int) < (m : Int) := by omega
      have hi6 : (0 : Int) ≤ (k : Int) := by omega
      have hB1 := hbt.out.alloc hbt.out.size (Obj.cells #[.int .i64 f', .int .i64 t', .int .i64 mo'] 54)
      have x0 : (wr.alloc (Obj.cells #[.int .i64 f', .int .i64 t', .int .i64 mo'] 54)).cell? ⟨wr.heap.size, 0, none⟩ = some (.int .i64 f') := by simp [go_sem]
      have x1 : (wr.alloc (Obj.cells #[.int .i64 f', .int .i64 t', .int .i64 mo'] 54)).cell? ⟨wr.heap.size, 1, none⟩ = some (.int .i64 t') := by simp [go_sem]
      have x2 : (wr.alloc (Obj.cells #[.int .i64 f', .int .i64 t', .int .i64 mo'] 54)).cell? ⟨wr.heap.size, 2, none⟩ = some (.int .i64 mo') := by simp [go_sem]
      have hd : w.cell? ⟨db, k, none⟩ = some (.bool (drop.getD k false)) := G.out.d.cell (i := k) hlt
      have d3 : w.cell? ⟨gb, 3, none⟩ = some (.slice (some ⟨db, 0, none⟩) m m) := G.out.g.cell (i := 3) (by omega)
      have e1 := kept1 c1 hB1
      have e3 := kept1 d3 hB1
      have ed := kept1 hd hB1
      have p0 := kept1 lq0.out hB1
      have p1 := kept1 lq1.out hB1
      have p2 := kept1 lq2.out hB1
      clear hlk lk hd d3 hbt htw
      obtain ⟨dk, hdk⟩ : ∃ dk, drop.getD k false = dk := ⟨_, rfl⟩
      rw [hdk] at ed hst
      clear hdk
      replace hst := Lib.hid hst
      go_upto_region 4 with fail
      clear c1 g0 g1 g2
      generalize wr.alloc (Obj.cells #[.int .i64 f', .int .i64 t', .int .i64 mo'] 54) = X at *
      generalize wr.heap.size = lb at *
      by_cases hkq : k = q
      · subst hkq
        have hgd : ((k : Int) != (k : Int)) = false := by simp
        have hst2 : Hid (Ch.twin drop k ⟨fq, tq, mq⟩ (L.drop (k + 1)) (k + 1) = b) := Lib.hid (by have h := hst.out; simpa using h.symm)
        clear hst
        go_quiet (fail)
        go_wp2
        go_roundw
        case rel => exact ⟨k + 1, by omega, by go_num, Lib.hid (below_drewN hB1 _), hst2⟩
        case measure => show m - ((k : Int) + 1).toNat < m - (k : Int).toNat; omega
      · have hgd : ((k : Int) != (q : Int)) = true := by rw [bne_iff_ne]; omega
        have hkq2 : (k != q) = true := by rw [bne_iff_ne]; exact hkq
        cases dk
        · have hk2 := lk_guard
          have heq := run_eql_lk f' t' mo' fq tq mq
          obtain ⟨sm, hsm⟩ : ∃ sm, Ch.sameLk ⟨f', t', mo'⟩ ⟨fq, tq, mq⟩ = sm := ⟨_, rfl⟩
          rw [hsm] at heq
          have hst1 : Hid (b = (sm || Ch.twin drop q ⟨fq, tq, mq⟩ (L.drop (k + 1)) (k + 1))) := Lib.hid (by have h := hst.out; rw [hsm] at h; simpa [hkq2] using h)
          clear hsm hst
          go_quiet (fail)
          clear heq hk2
          cases sm
          · have hst2 : Hid (Ch.twin drop q ⟨fq, tq, mq⟩ (L.drop (k + 1)) (k + 1) = b) := Lib.hid (by have h := hst1.out; simpa using h.symm)
            clear hst1
            go_wp2
            go_roundw
            case rel => exact ⟨k + 1, by omega, by go_num, Lib.hid (below_drewN hB1 _), hst2⟩
            case measure => show m - ((k : Int) + 1).toNat < m - (k : Int).toNat; omega
          · have hb9 : b = true := by have h := hst1.out; simpa using h
            subst hb9
            clear hst1
            go_wp2
            go_ret
            exact ⟨rfl, below_drewN hB1 _⟩
        · have hst2 : Hid (Ch.twin drop q ⟨fq, tq, mq⟩ (L.drop (k + 1)) (k + 1) = b) := Lib.hid (by have h := hst.out; simpa using h.symm)
          clear hst
          go_quiet (fail)
          go_wp2
          go_roundw
          case rel => exact ⟨k + 1, by omega, by go_num, Lib.hid (below_drewN hB1 _), hst2⟩
          case measure => show m - ((k : Int) + 1).toNat < m - (k : Int).toNat; omega
    · obtain rfl : k = m := by omega
      have hi5 : ¬ (k : Int) < (k : Int) := by omega
      have h9 : b = false := by
        have h := htw.out
        rw [List.drop_eq_nil_of_le (by omega)] at h
        exact h.symm
      subst h9
      go_wp2
      go_ret
      exact ⟨rfl, hbt.out⟩

theorem keepC {W W' : World} {p0 p1 : Addr} {x0 x1 : Value} (h : W.cell? p0 = some x0 ∧ W.cell? p1 = some x1) (hb : Below W.heap.size W W') : W'.cell? p0 = some x0 ∧ W'.cell? p1 = some x1 := ⟨kept1 h.1 hb, kept1 h.2 hb⟩

/-- the marks of the links that are left out, changed -/
theorem Gr.redrop {w W : World} {H gb ib db n m : Nat} {a : Option Addr} {cap : Nat} {V : Nat → Value} {L : List Ch.Lk} {D D' : Nat → Bool} (h : Gr w H gb ib db n m a cap V L D) (hA : Ap gb ib db n m a V) (hb : But (fun k => k = db) w W) (hd : W.rowIs db 4 m (fun k => .bool (D' k))) : Gr W H gb ib db n m a cap V L D' := by
  have hc : ∀ {p : Addr} {x : Value}, p.block ≠ db → w.cell? p = some x → W.cell? p = some x := fun hp hx => (hb.cell (block_lt_of_cell hx) hp).trans hx
  refine ⟨h.hm, h.m3, h.ok, hb.row h.g hA.g, hb.row h.i hA.i, hd, fun u hu => ?_, fun k hk => ?_, h.hg, h.hi, h.hd, Nat.le_trans h.hH hb.size⟩
  · obtain ⟨av, cr, h1, h2⟩ := h.v u hu
    exact ⟨av, cr, h1, fun k hk => by
      obtain ⟨x, hx, hlt, hcx⟩ := h2 k hk
      refine ⟨x, hx, hlt, hc ?_ hcx⟩
      have e : (x.add k).block = x.block := by unfold Addr.add; split <;> rfl
      rw [e]
      exact hA.v u hu x _ _ (by rw [h1, hx])⟩
  · obtain ⟨x, hx, hlt, h1, h2, h3⟩ := h.l k hk
    have e : (x.add (k * 3)).block = x.block := by unfold Addr.add; split <;> rfl
    have hne := hA.l x hx (by have := h.hm; omega)
    exact ⟨x, hx, hlt, hc (by rw [e]; exact hne) h1, hc (p := ⟨(x.add (k * 3)).block, _, none⟩) (by show (x.add (k * 3)).block ≠ db; rw [e]; exact hne) h2, hc (p := ⟨(x.add (k * 3)).block, _, none⟩) (by show (x.add (k * 3)).block ≠ db; rw [e]; exact hne) h3⟩

theorem drop_get {D : List Bool} {q k m : Nat} (hD : D.length = m) (hk : k < m) (t : Bool) : (D.set q t).getD k false = if k = q then t else D.getD k false := by
  rw [List.getD, List.getD, List.getElem?_set]
  by_cases e : q = k
  · subst e; rw [if_pos rfl, if_pos (by omega), if_pos rfl]; rfl
  · rw [if_neg e, if_neg (fun h => e h.symm)]

/-- a link left out, or not any more -/
theorem Gr.mark {w : World} {H gb ib db n m : Nat} {a : Option Addr} {cap : Nat} {V : Nat → Value} {L : List Ch.Lk} {drop : List Bool} (h : Gr w H gb ib db n m a cap V L (fun i => drop.getD i false)) (hA : Ap gb ib db n m a V) (hD : drop.length = m) (q : Nat) (t : Bool) : Gr (w.setCell ⟨db, q, none⟩ (.bool t)) H gb ib db n m a cap V L (fun i => (drop.set q t).getD i false) :=
  h.redrop hA ((But.refl (fun k => k = db) w).setCell (p := ⟨db, q, none⟩) (.inr rfl) _) ((h.d.set q (.bool t)).congr (fun i hi => by rw [drop_get hD hi]; split <;> rfl))

/-- what solvableWithout and spares leave -/
def MkPost (w : World) (db m : Nat) (D : Nat → Bool) (b : Bool) (e : Ending) (w' : World) : Prop :=
  e = .returned (.bool b) ∧ But (fun k => k = db) w w' ∧ w'.rowIs db 4 m (fun k => .bool (D k))

set_option maxRecDepth 100000 in
set_option maxHeartbeats 4000000 in
theorem without_any (n gb H ib db m : Nat) (n1 : 1 ≤ n) (n2 : n ≤ 60) (a : Option Addr) (cap0 : Nat) (V : Nat → Value) (L : List Ch.Lk) (drop : List Bool) (q : Nat) (hq : q < m) (hD : drop.length = m) (hqd : drop.getD q false = false) (k : Nat) (R : Option (List Int)) (hR : Hid (Ch.levels n L (drop.set q true) k = some R)) (w : World) (G : Hid (Gr w H gb ib db n m a cap0 V L (fun i => drop.getD i false))) (hA : Hid (Ap gb ib db n m a V)) :
    Calls Tryz.prog 48 #[.pointer (some ⟨gb, 0, none⟩), .int .i64 (q : Int)] w (MkPost w db m (fun i => drop.getD i false) R.isSome) := by
  have d3 : w.cell? ⟨gb, 3, none⟩ = some (.slice (some ⟨db, 0, none⟩) m m) := G.out.g.cell (i := 3) (by omega)
  have hd : w.cell? ⟨db, q, none⟩ = some (.bool (drop.getD q false)) := G.out.d.cell (i := q) hq
  have hf := G.out.d.frozen q
  have G1 := Lib.hid (G.out.mark hA.out hD q true)
  have HC := Lib.hid (consistent_any n gb n1 n2 L (drop.set q true) k R hR H ib db m a cap0 V _ G1)
  have hq1 : (q : Int) < (m : Int) := by omega
  have hq0 : (0 : Int) ≤ (q : Int) := by omega
  have hb1 : But (fun k => k = db) w (w.setCell ⟨db, q, none⟩ (.bool true)) := (But.refl (fun k => k = db) w).setCell (p := ⟨db, q, none⟩) (.inr rfl) _
  clear hR
  go_enter Tryz.func48, Tryz.ntmps48
  go_wp2_with fail
  refine HC.out.mono ?_
  rintro e w1 ⟨rfl, hb⟩
  have G2 := Lib.hid (G1.out.high.below hb)
  have e3 : w1.cell? ⟨gb, 3, none⟩ = some (.slice (some ⟨db, 0, none⟩) m m) := G2.out.g.cell (i := 3) (by omega)
  have ed : w1.cell? ⟨db, q, none⟩ = some (.bool ((drop.set q true).getD q false)) := G2.out.d.cell (i := q) hq
  have ef := G2.out.d.frozen q
  have hb2 := hb1.trans (.of_below hb)
  have hrow := Lib.hid ((G2.out.d.set q (.bool false)).congr (g := fun k => .bool (drop.getD k false)) (fun i hi => by
    by_cases e : i = q
    · subst e; rw [if_pos rfl, hqd]
    · rw [if_neg e, drop_get hD hi, if_neg e]))
  clear hb hb1 HC G1 G2 d3 hd hf
  generalize (drop.set q true).getD q false = old at ed
  go_wp2
  go_ret
  exact ⟨rfl, hb2.setCell (p := ⟨db, q, none⟩) (.inr rfl) _, hrow.out⟩

set_option linter.unusedSimpArgs false in
set_option maxRecDepth 100000 in
set_option maxHeartbeats 4000000 in
theorem spares_any (n gb H ib db m : Nat) (n1 : 1 ≤ n) (n2 : n ≤ 60) (a : Option Addr) (cap0 : Nat) (V : Nat → Value) (L : List Ch.Lk) (drop : List Bool) (q : Nat) (hq : q < m) (hD : drop.length = m) (hqd : drop.getD q false = false) (k : Nat) (hE : Ch.enough n L (drop.set q true) k = true) (hcon : Ch.cons n L (drop.set q true) k = true) (w : World) (G : Hid (Gr w H gb ib db n m a cap0 V L (fun i => drop.getD i false))) (hA : Hid (Ap gb ib db n m a V)) :
    Calls Tryz.prog 39 #[.pointer (some ⟨gb, 0, none⟩), .int .i64 (q : Int)] w (MkPost w db m (fun i => drop.getD i false) (Ch.spares n L drop k q)) := by
  have hm := G.out.hm
  have HT := Lib.hid (hasTwin_any n gb H ib db m a cap0 V L drop q hq w G _ (Lib.hid rfl))
  obtain ⟨r, hr⟩ : ∃ r, Ch.spares n L drop k q = r := ⟨_, rfl⟩
  rw [hr]
  unfold Ch.spares at hr
  obtain ⟨t, ht⟩ : ∃ t, Ch.twin drop q (L.getD q Ch.noLk) L 0 = t := ⟨_, rfl⟩
  rw [ht] at HT hr
  have hok1 := Ch.okLk_spec (G.out.ok q (by omega))
  obtain ⟨y, hy, _, lq⟩ := G.out.l q (by omega)
  obtain ⟨fq, tq, mq, hlq⟩ : ∃ f t mo, L.getD q Ch.noLk = ⟨f, t, mo⟩ := ⟨_, _, _, rfl⟩
  rw [hlq] at lq hr hok1
  simp only at hok1 hr
  obtain ⟨o1, o2, o3, o4, _, o6, o7⟩ := hok1
  obtain ⟨f, rfl⟩ : ∃ k : Nat, fq = (k : Int) := ⟨fq.toNat, by omega⟩
  obtain ⟨v, rfl⟩ : ∃ k : Nat, tq = (k : Int) := ⟨tq.toNat, by omega⟩
  simp only [Int.toNat_natCast] at hr
  replace hr := Lib.hid hr
  replace lq := Lib.hid lq
  have hq1 : (q : Int) < (m : Int) := by omega
  have hq0 : (0 : Int) ≤ (q : Int) := by omega
  clear ht hlq
  subst hy
  go_enter Tryz.func39, Tryz.ntmps39
  go_wp2_with fail
  refine HT.out.mono ?_
  rintro e w1 ⟨rfl, hb⟩
  have G1 := Lib.hid (G.out.high.below hb)
  have ⟨g0, g1, g2⟩ := lq.out.below hb
  simp only at g0 g1 g2
  have c1 : w1.cell? ⟨gb, 1, none⟩ = some (.slice (some y) m cap0) := G1.out.g.cell (i := 1) (by omega)
  have hB1 : But (fun k => k = db) w w1 := .of_below hb
  clear HT hb
  cases t
  · obtain ⟨hbt, hlen, hbd⟩ := Ch.enough_bt hE hcon (v := v) (by omega)
    have HX := Lib.hid ((Below.refl w1.heap.size w1).alloc (Nat.le_refl _) (Obj.cells #[.int .i64 (f : Int), .int .i64 (v : Int), .int .i64 mq] 54))
    have x0 : (w1.alloc (Obj.cells #[.int .i64 (f : Int), .int .i64 (v : Int), .int .i64 mq] 54)).cell? ⟨w1.heap.size, 0, none⟩ = some (.int .i64 (f : Int)) := by simp [go_sem]
    have x1 : (w1.alloc (Obj.cells #[.int .i64 (f : Int), .int .i64 (v : Int), .int .i64 mq] 54)).cell? ⟨w1.heap.size, 1, none⟩ = some (.int .i64 (v : Int)) := by simp [go_sem]
    have x2 : (w1.alloc (Obj.cells #[.int .i64 (f : Int), .int .i64 (v : Int), .int .i64 mq] 54)).cell? ⟨w1.heap.size, 2, none⟩ = some (.int .i64 mq) := by simp [go_sem]
    have G2 := Lib.hid (G1.out.high.below HX.out)
    have e3 : (w1.alloc (Obj.cells #[.int .i64 (f : Int), .int .i64 (v : Int), .int .i64 mq] 54)).cell? ⟨gb, 3, none⟩ = some (.slice (some ⟨db, 0, none⟩) m m) := G2.out.g.cell (i := 3) (by omega)
    have ed : (w1.alloc (Obj.cells #[.int .i64 (f : Int), .int .i64 (v : Int), .int .i64 mq] 54)).cell? ⟨db, q, none⟩ = some (.bool (drop.getD q false)) := G2.out.d.cell (i := q) hq
    have ef := G2.out.d.frozen q
    have hne : w1.heap.size ≠ db := by have := G1.out.d.lt; omega
    have hB2 := hB1.trans (.of_below HX.out)
    have hB3 : But (fun k => k = db) w ((w1.alloc (Obj.cells #[.int .i64 (f : Int), .int .i64 (v : Int), .int .i64 mq] 54)).setCell ⟨db, q, none⟩ (.bool true)) := hB2.setCell (p := ⟨db, q, none⟩) (.inr rfl) _
    have G3 := Lib.hid (G2.out.mark hA.out hD q true)
    clear HX hB1 hB2
    go_upto_region 4 with fail
    have hzs : (w1.alloc (Obj.cells #[.int .i64 (f : Int), .int .i64 (v : Int), .int .i64 mq] 54)).heap.size = w1.heap.size + 1 := by simp
    generalize w1.alloc (Obj.cells #[.int .i64 (f : Int), .int .i64 (v : Int), .int .i64 mq] 54) = X at *
    generalize w1.heap.size = lb at *
    go_upto_region 5 with fail
    have s0 : (X.setCell ⟨db, q, none⟩ (.bool true)).cell? ⟨lb, 0, none⟩ = some (.int .i64 (f : Int)) := by rw [World.cell?_setCell_other _ _ _ _ (by simp [hne])]; exact x0
    have s1 : (X.setCell ⟨db, q, none⟩ (.bool true)).cell? ⟨lb, 1, none⟩ = some (.int .i64 (v : Int)) := by rw [World.cell?_setCell_other _ _ _ _ (by simp [hne])]; exact x1
    have s2 : (X.setCell ⟨db, q, none⟩ (.bool true)).cell? ⟨lb, 2, none⟩ = some (.int .i64 mq) := by rw [World.cell?_setCell_other _ _ _ _ (by simp [hne])]; exact x2
    generalize X.setCell ⟨db, q, none⟩ (.bool true) = Y at *
    obtain ⟨S, hS⟩ : ∃ S, Ch.bt n L (drop.set q true) k v = S := ⟨_, rfl⟩
    rw [hS] at hbt
    obtain ⟨z, hz⟩ : ∃ z, S.getD f 0 = z := ⟨_, rfl⟩
    have hr2 : decide (z ≤ mq) = r := by have h := hr.out; simp only [Bool.false_or, hS, hz] at h; exact h
    subst hr2
    replace hz := Lib.hid hz
    have HB := Lib.hid (boundsTo_any n gb n1 n2 v (by omega) L (drop.set q true) k _ (Lib.hid hbt) _ ib db m (some y) cap0 V Y.drew (Lib.hid (G3.out.high.below (Below.refl _ _).drew)))
    have S0 : Y.drew.cell? ⟨lb, 0, none⟩ = some (.int .i64 (f : Int)) ∧ Y.drew.cell? ⟨lb, 1, none⟩ = some (.int .i64 (v : Int)) := ⟨s0, s1⟩
    have if1 : (f : Int) < (n : Int) := by omega
    have if0 : (0 : Int) ≤ (f : Int) := by omega
    clear hr hbt hbd hlen hS hE hcon x0 x1 x2 s0 s1 ed ef e3 G2
    refine region_head_held 6 (fun w' => w'.cell? ⟨lb, 0, none⟩ = some (.int .i64 (f : Int)) ∧ w'.cell? ⟨lb, 1, none⟩ = some (.int .i64 (v : Int))) (by kernel_rfl) (by kernel_rfl) S0 (fun hHeld => ?_)
    simp only [List.take_succ_cons, List.take_zero, List.drop_succ_cons, List.drop_zero]
    refine wpAnyH_take (i := 0) (v := ?_) rfl (by kernel_rfl) (by kernel_rfl) (by kernel_rfl) (fun _ _ _ h => h) (Or.inl ⟨by rfl, ?_⟩) (by assumption) ?_
    rotate_left 1
    · (intro w hSw; (try dsimp only at hSw); go_simp; all_goals with_reducible rfl)
    try simp only [Act.put, List.setIfInBounds_toArray, List.set_cons_zero, List.set_cons_succ]
    refine wpAnyH_take (i := 1) (v := ?_) rfl (by kernel_rfl) (by kernel_rfl) (by kernel_rfl) (fun _ _ _ h => h) (Or.inl ⟨by rfl, ?_⟩) (by assumption) ?_
    rotate_left 1
    · (intro w hSw; (try dsimp only at hSw); go_simp; all_goals with_reducible rfl)
    try simp only [Act.put, List.setIfInBounds_toArray, List.set_cons_zero, List.set_cons_succ]
    refine wpAnyH_take (i := 2) (v := ?_) rfl (by kernel_rfl) (by kernel_rfl) (by kernel_rfl) (fun _ _ _ h => h) (Or.inl ⟨by rfl, ?_⟩) (by assumption) ?_
    rotate_left 1
    · (intro w hSw; (try dsimp only at hSw); go_simp; all_goals with_reducible rfl)
    try simp only [Act.put, List.setIfInBounds_toArray, List.set_cons_zero, List.set_cons_succ]
    refine wpAnyH_take (i := 4) (v := ?_) rfl (by kernel_rfl) (by kernel_rfl) (by kernel_rfl) (fun _ _ _ h => h) (Or.inl ⟨by rfl, ?_⟩) (by assumption) ?_
    rotate_left 1
    · (intro w hSw; (try dsimp only at hSw); go_simp; all_goals with_reducible rfl)
    try simp only [Act.put, List.setIfInBounds_toArray, List.set_cons_zero, List.set_cons_succ]
    refine wpAnyH_take (i := 5) (v := ?_) rfl (by kernel_rfl) (by kernel_rfl) (by kernel_rfl) (fun _ _ _ h => h) (Or.inl ⟨by rfl, ?_⟩) (by assumption) ?_
    rotate_left 1
    · (intro w hSw; (try dsimp only at hSw); go_simp; all_goals with_reducible rfl)
    try simp only [Act.put, List.setIfInBounds_toArray, List.set_cons_zero, List.set_cons_succ]
    refine wpAnyH_ready (rs := [3]) (by kernel_rfl) (by simp) ?_
    refine AllReadyH.cons rfl (fun K hK => ?_) ?_
    rotate_left 1
    · exact AllReadyH.nil
    go_simp
    with_reducible refine HB.out.mono ?_
    rintro e wp1 ⟨sb, hsb, hbp, he, hrow⟩
    subst he
    obtain ⟨fr, r1, r2⟩ := hrow S rfl
    have cz := r1.cell (i := f) (by omega)
    rw [r2 f (by omega), hz.out] at cz
    refine hK.out _ _ (keepC hHeld hbp) (fun hHeld2 => ?_)
    clear hK K
    try simp only [Act.put, List.setIfInBounds_toArray, List.set_cons_zero, List.set_cons_succ]
    refine wpAnyH_done (by kernel_rfl) ?_ _
    show wpList _ _ _ _ _ _
    clear hHeld
    go_upto_region 6 with fail
    have hY := Lib.hid (Below.trans (Below.refl Y.heap.size Y).drew hbp)
    have G5 := Lib.hid (G3.out.high.below hY.out)
    have e3 : wp1.cell? ⟨gb, 3, none⟩ = some (.slice (some ⟨db, 0, none⟩) m m) := G5.out.g.cell (i := 3) (by omega)
    have ed : wp1.cell? ⟨db, q, none⟩ = some (.bool ((drop.set q true).getD q false)) := G5.out.d.cell (i := q) hq
    have ef := G5.out.d.frozen q
    have m2 := kept1 s2 hY.out
    have m3 : (wp1.setCell ⟨db, q, none⟩ (.bool false)).cell? ⟨lb, 2, none⟩ = some (.int .i64 mq) := by rw [World.cell?_setCell_other _ _ _ _ (by simp [hne])]; exact m2
    have hb2 := hB3.trans (.of_below hY.out)
    have hrow := Lib.hid ((G5.out.d.set q (.bool false)).congr (g := fun k => .bool (drop.getD k false)) (fun i hi => by
      by_cases e : i = q
      · subst e; rw [if_pos rfl, hqd]
      · rw [if_neg e, drop_get hD hi, if_neg e]))
    clear r1 r2 cz hY G5 HB S0 hB3 G3
    generalize (drop.set q true).getD q false = old at ed
    go_wp2
    go_ret
    exact ⟨rfl, hb2.setCell (p := ⟨db, q, none⟩) (.inr rfl) _, hrow.out⟩
  · have hr9 : r = true := by have h := hr.out; simpa using h.symm
    subst hr9
    go_wp2
    go_ret
    exact ⟨rfl, hB1, G1.out.d⟩
end Go.Proofs.YtemacokojdeimaaGreatDoor

/- Contracts of package chain: Idle. -/
namespace Go.Proofs.YtemacokojdeimaaGreatDoor
open Go.RowKit

/-- a graph, and a list of its own behind it -/
structure ID (w1 W : World) (gb ib db n m : Nat) (a : Option Addr) (cap : Nat) (V : Nat → Value) (L : List Ch.Lk) (D : Nat → Bool) (cv : Value) (pre : List Nat) : Prop where
  g : Gr W w1.heap.size gb ib db n m a cap V L D
  o : W.ownsRow w1.heap.size 3 1 cv pre.length (pre.map fun i : Nat => Value.int .i64 (i : Int))
  b : But (fun k => k = db) w1 W
theorem ID.marked {w1 W W' : World} {gb ib db n m : Nat} {a : Option Addr} {cap : Nat} {V : Nat → Value} {L : List Ch.Lk} {D D' : Nat → Bool} {cv : Value} {pre : List Nat} (h : ID w1 W gb ib db n m a cap V L D cv pre) (hA : Ap gb ib db n m a V) (hb : But (fun k => k = db) W W') (hd : W'.rowIs db 4 m (fun k => .bool (D' k))) : ID w1 W' gb ib db n m a cap V L D' cv pre :=
  ⟨h.g.redrop hA hb hd, owns_but h.o hb (fun g hg e => by have := owns_far h.o hg; have := h.g.hd; omega), h.b.trans hb⟩
theorem ID.below {w1 W W' : World} {gb ib db n m : Nat} {a : Option Addr} {cap : Nat} {V : Nat → Value} {L : List Ch.Lk} {D : Nat → Bool} {cv : Value} {pre : List Nat} (h : ID w1 W gb ib db n m a cap V L D cv pre) (hb : Below W.heap.size W W') : ID w1 W' gb ib db n m a cap V L D cv pre :=
  ⟨h.g.below (hb.mono h.g.hH), owns_but (T := fun _ => False) h.o ((But.of_below hb).mono (fun _ _ h => h)) (fun _ _ h => h), h.b.trans (.of_below hb)⟩
theorem ID.push {w1 W W' : World} {gb ib db n m : Nat} {a : Option Addr} {cap : Nat} {V : Nat → Value} {L : List Ch.Lk} {D : Nat → Bool} {cv cv' : Value} {pre : List Nat} {i : Nat} (h : ID w1 W gb ib db n m a cap V L D cv pre) (hg : W.grownBy W' cv.ownBlock) (ho : W'.ownsRow w1.heap.size 3 1 cv' (pre.length + 1) (pre.map (fun i : Nat => Value.int .i64 (i : Int)) ++ [.int .i64 (i : Int)])) : ID w1 W' gb ib db n m a cap V L D cv' (pre ++ [i]) := by
  have hb : But (fun k => cv.ownBlock = some k) W W' := ⟨hg.os, hg.tape, hg.output, hg.size, fun k hk hn => hg.block k hk (fun e => hn e.symm)⟩
  have hT : ∀ k, k < w1.heap.size → ¬ cv.ownBlock = some k := fun k hk e => by have := owns_far h.o e; omega
  refine ⟨h.g.below (hb.below h.g.hH hT), by simpa using ho, ?_⟩
  exact ⟨hb.os.trans h.b.os, hb.tape.trans h.b.tape, hb.output.trans h.b.output, Nat.le_trans h.b.size hb.size, fun k hk hn => (hb.block k (Nat.lt_of_lt_of_le hk h.b.size) (hT k hk)).trans (h.b.block k hk hn)⟩

set_option maxRecDepth 100000 in
set_option maxHeartbeats 4000000 in
theorem idle_any (n : Int) (a : Option Addr) (cap : Nat) (L : List Ch.Lk) (k : Nat) (hE : (Ch.check n L).1 = 0 → Ch.enough n.toNat L [] k = true) (hS : Ch.opn n L [] k = 0 → ∀ q, q < L.length → Ch.enough n.toNat L ((Ch.none' L.length).set q true) k = true ∧ Ch.cons n.toNat L ((Ch.none' L.length).set q true) k = true) (w : World) (hL : LksAt w a L) :
    Calls Tryz.prog 18 #[sysV n a L.length cap] w (ChPost w (if Ch.opn n L [] k = 0 then Ch.idleK n.toNat L k L.length else []) (Ch.opn n L [] k)) := by
  obtain ⟨i0, hi, hz0, hz1, hz2⟩ := info_parts infoInt
  have hB0 : Below w.heap.size w (w.alloc (Obj.cells #[.int .i64 n, .slice a L.length cap] 24)) := below_alloc (Below.refl _ _) _
  have HO := open_any n a cap L none 0 [] (by simp) k hE _ (hL.below hB0) (fun k hk => absurd hk (by simp))
  have hok := Ch.opn_ok (n := n) (L := L) (l := []) (k := k)
  obtain ⟨ec, hec⟩ : ∃ ec, Ch.opn n L [] k = ec := ⟨_, rfl⟩
  rw [hec] at HO hok hS ⊢
  obtain ⟨l, hl⟩ : ∃ l, (if ec = 0 then Ch.idleK n.toNat L k L.length else []) = l := ⟨_, rfl⟩
  rw [hl]
  replace HO := Lib.hid HO
  replace hok := Lib.hid hok
  replace hl := Lib.hid hl
  replace hS := Lib.hid hS
  unfold sysV at *
  clear hec
  go_enter Tryz.func18, Tryz.ntmps18
  go_wp2_with fail
  refine HO.out.mono ?_
  rintro e w1 ⟨hb, h⟩
  have hB := hB0.trans (hb.mono (by simp))
  clear hb hB0 HO
  rcases h with ⟨hne, rfl⟩ | ⟨rfl, gb, ib, db, V, hge, rfl, hG, hAp, hdb0⟩
  · have h := hl.out
    rw [if_neg hne] at h
    subst h
    go_wp2
    go_ret2
    exact ⟨_, rfl, World.ownsRow_nil _ _ _ _, hB⟩
  · have hl9 := hl.out
    rw [if_pos rfl] at hl9
    obtain ⟨hc0, _, hcon⟩ := hok.out rfl
    have hSq := hS.out rfl
    obtain ⟨n1, n2, hm3, _⟩ := Ch.check_ok hc0
    obtain ⟨N, rfl⟩ : ∃ N : Nat, n = (N : Int) := ⟨n.toNat, by omega⟩
    simp only [Int.toNat_natCast] at *
    have hdb : w.heap.size ≤ db := by simp at hdb0; omega
    have hG0 : Gr w1 w1.heap.size gb ib db N L.length a cap V L (fun i => (Ch.none' L.length).getD i false) := by
      have e : (fun i => (Ch.none' L.length).getD i false) = (fun i => ([] : List Bool).getD i false) := by funext i; rw [Ch.none_get]; rfl
      rw [e]; exact hG
    have HID := Lib.hid (ID.mk (cv := .slice none 0 0) (pre := []) hG0 (World.ownsRow_nil _ _ _ _) (But.refl (fun k => k = db) w1))
    replace hAp := Lib.hid hAp
    replace hSq := Lib.hid hSq
    have g1 : w1.cell? ⟨gb, 1, none⟩ = some (.slice a L.length cap) := hG0.g.cell (i := 1) (by omega)
    have hl9 := Lib.hid hl9
    clear hl hG hok hS hE hcon hc0 hG0
    go_wp2
    go_loopw [21, 6] (fun x cv wr => ∃ j : Nat, j ≤ L.length ∧ x = .int .i64 (j : Int) ∧ Hid (ID w1 wr gb ib db N L.length a cap V L (fun i => (Ch.none' L.length).getD i false) cv (Ch.idleK N L k j))) (fun x _ _ => L.length - (RowKit.intOf x).toNat)
    case atStart => exact ⟨0, Nat.zero_le _, rfl, HID⟩
    case round =>
      clear HID g1
      obtain ⟨j, hj, rfl, HI⟩ := hrel
      by_cases hlt : j < L.length
      · have hi5 : (j : Int) < (L.length : Int) := by omega
        have HSp := Lib.hid (spares_any N gb w1.heap.size ib db L.length (by omega) (by omega) a cap V L (Ch.none' L.length) j hlt (Ch.none_len _) (Ch.none_get _ _) k (hSq.out j hlt).1 (hSq.out j hlt).2 wr (Lib.hid HI.out.g) hAp)
        cases hsp : Ch.spares N L (Ch.none' L.length) k j
        · rw [hsp] at HSp
          have hms := Lib.hid (Ch.idleK_miss hsp)
          clear hsp
          go_wp2_with fail
          refine HSp.out.mono ?_
          rintro e w2 ⟨rfl, hb2, hd2⟩
          have HI2 := Lib.hid (HI.out.marked hAp.out hb2 hd2)
          clear hb2 hd2 HSp HI
          go_wp2
          go_roundw
          case rel => exact ⟨j + 1, by omega, by go_num, Lib.hid (by rw [hms.out]; exact HI2.out)⟩
          case measure => show L.length - ((j : Int) + 1).toNat < L.length - (j : Int).toNat; omega
        · rw [hsp] at HSp
          have hht := Lib.hid (Ch.idleK_hit hsp)
          have hlen := Ch.idleK_len N L k j
          clear hsp
          go_wp2_with fail
          refine HSp.out.mono ?_
          rintro e w2 ⟨rfl, hb2, hd2⟩
          have HI2 := Lib.hid (HI.out.marked hAp.out hb2 hd2)
          clear hb2 hd2 HSp HI
          have hown := HI2.out.o
          have hsz := HI2.out.b.size
          go_wp2_with (first
            | (at_builtin; refine wpList_append_own _ rfl (.tmp 27) (.tmp 29) 41 rfl w1.heap.size 3 i0 (.int .i64 0) 1 8 Tryz.underlying41 hi hz0 hz1 hz2 rfl (by decide) _ _ _ rfl (hown.alloc _) ⟨w2.heap.size, 0, none⟩ 1 1 [.int .i64 (j : Int)] rfl rfl ?c1 ?c2 ?c3 ?c4 ?c5 ?_)
            | fail)
          case c1 =>
            intro j u hj
            match j, hj with
            | 0, hj => simp at hj; subst hj; simp [Addr.add]
          case c2 => intro u hu; simp at hu; subst hu; rfl
          case c3 => unfold maxLen; omega
          case c4 => omega
          case c5 => simp; omega
          intro v' w4 hown' hgrow hnn
          have HI3 := Lib.hid ((HI2.out.below ((Below.refl _ _).alloc (Nat.le_refl _) (Obj.cells #[.int .i64 (j : Int)] 3))).push hgrow hown')
          clear hown hown' hgrow hnn HI2
          go_wp2
          go_roundw
          case rel => exact ⟨j + 1, by omega, by go_num, Lib.hid (by rw [hht.out]; exact HI3.out)⟩
          case measure => show L.length - ((j : Int) + 1).toNat < L.length - (j : Int).toNat; omega
      · obtain rfl : j = L.length := by omega
        have hi5 : ¬ ((L.length : Nat) : Int) < ((L.length : Nat) : Int) := by omega
        go_wp2
        go_ret2
        exact ⟨_, rfl, by rw [← hl9.out]; exact owns_base HI.out.o hB.size, hB.trans (HI.out.b.below hB.size (fun k hk e => by omega))⟩
end Go.Proofs.YtemacokojdeimaaGreatDoor

/- Contracts of package chain: slices.Compare of numbers. -/
namespace Go.Proofs.YtemacokojdeimaaGreatDoor
open Go.RowKit

theorem cmp_of (a b : Int) : Lib.compareInt a b = if a < b then -1 else if b < a then 1 else 0 := by
  unfold Lib.compareInt
  rfl

set_option maxRecDepth 100000 in
set_option maxHeartbeats 2000000 in
theorem compare_any (a b : Option Addr) (p q c1 c2 : Nat) (hp9 : p ≤ 1000) (l1 l2 : List Int) (hp : Hid (l1.length = p)) (hq : Hid (l2.length = q)) (w : World) (h1 : Hid (IntsAt w a l1)) (h2 : Hid (IntsAt w b l2)) (r : Int) (hr : Hid (Ch.cmpI l1 l2 = r)) :
    Calls Tryz.prog 68 #[.slice a p c1, .slice b q c2] w fun e w' => e = .returned (.int .i64 r) ∧ w' = w := by
  go_enter Tryz.func68, Tryz.ntmps68
  go_wp2
  go_loopw [11] (fun i wr => ∃ k : Nat, k ≤ p ∧ k ≤ q ∧ i = .int .i64 k ∧ wr = w ∧ Hid (Ch.cmpI (l1.drop k) (l2.drop k) = r)) (fun i _ => p - (RowKit.intOf i).toNat)
  case atStart => exact ⟨0, Nat.zero_le _, Nat.zero_le _, rfl, rfl, hr⟩
  case round =>
    obtain ⟨k, hk, hk2, rfl, rfl, hc⟩ := hrel
    by_cases hlt : k < p
    · obtain ⟨x, rfl, hx⟩ := h1.out k (by have := hp.out; omega)
      have hi5 : (k : Int) < (p : Int) := by omega
      obtain ⟨u, hu⟩ : ∃ u, l1.getD k 0 = u := ⟨_, rfl⟩
      rw [hu] at hx
      by_cases hlt2 : k < q
      · obtain ⟨y, rfl, hy⟩ := h2.out k (by have := hq.out; omega)
        have hst := Ch.cmpI_step (l := l1) (q := l2) (k := k) (by have := hp.out; omega) (by have := hq.out; omega)
        obtain ⟨v, hv⟩ : ∃ v, l2.getD k 0 = v := ⟨_, rfl⟩
        rw [hv] at hy
        rw [hu, hv, hc.out] at hst
        have HC := Tryz.cmp_Compare_int u v wr
        rw [cmp_of] at HC
        have hi6 : (k : Int) < (q : Int) := by omega
        have hi7 : ¬ (k : Int) ≥ (q : Int) := by omega
        have hi8 : (0 : Int) ≤ (k : Int) := by omega
        clear hu hv
        by_cases e1 : u < v
        · rw [if_pos e1] at HC hst
          subst hst
          replace HC := Lib.hid HC
          go_wp2_with fail
          refine HC.out.mono ?_
          rintro e w1 ⟨rfl, hw⟩
          subst hw
          go_wp2
          go_ret
          exact ⟨rfl, rfl⟩
        · rw [if_neg e1] at HC hst
          by_cases e2 : v < u
          · rw [if_pos e2] at HC hst
            subst hst
            replace HC := Lib.hid HC
            go_wp2_with fail
            refine HC.out.mono ?_
            rintro e w1 ⟨rfl, hw⟩
            subst hw
            go_wp2
            go_ret
            exact ⟨rfl, rfl⟩
          · rw [if_neg e2] at HC hst
            replace HC := Lib.hid HC
            replace hst := Lib.hid hst
            go_wp2_with fail
            refine HC.out.mono ?_
            rintro e w1 ⟨rfl, hw⟩
            subst hw
            go_wp2
            go_roundw
            case rel => exact ⟨k + 1, by omega, by omega, by go_num, by first | rfl | trivial, Lib.hid hst.out.symm⟩
            case measure => show p - ((k : Int) + 1).toNat < p - (k : Int).toNat; omega
      · have hi7 : (q : Int) ≤ (k : Int) := by omega
        have h9 : r = 1 := by rw [← hc.out]; exact Ch.cmpI_more (by have := hp.out; omega) (by have := hq.out; omega)
        subst h9
        clear hu
        go_wp2
        go_ret
        exact ⟨rfl, rfl⟩
    · obtain rfl : k = p := by omega
      have hi5 : ¬ (k : Int) < (k : Int) := by omega
      by_cases hlt2 : k < q
      · have hi6 : (k : Int) < (q : Int) := by omega
        have h9 : r = -1 := by rw [← hc.out]; exact Ch.cmpI_less (by have := hp.out; omega) (by have := hq.out; omega)
        subst h9
        go_wp2
        go_ret
        exact ⟨rfl, rfl⟩
      · have hi6 : ¬ (k : Int) < (q : Int) := by omega
        have h9 : r = 0 := by rw [← hc.out]; exact Ch.cmpI_same (by have := hp.out; omega) (by have := hq.out; omega)
        subst h9
        go_wp2
        go_ret
        exact ⟨rfl, rfl⟩
end Go.Proofs.YtemacokojdeimaaGreatDoor

/- Package chain, mirrored: clash. -/
namespace Ch

/-- does a closed chain of j links through one of t nodes, from i on, have a sum below 0? -/
def neg (S : Nat → Nat → List Int) (j : Nat) : Nat → Nat → Bool
  | 0, _ => false
  | t + 1, i => decide ((S i j).getD i 0 < 0) || neg S j t (i + 1)
/-- the least number of links of such a chain, from j on; at most j + t -/
def lnkC (S : Nat → Nat → List Int) (n : Nat) : Nat → Nat → Nat
  | 0, j => j
  | t + 1, j => if neg S j n 0 then j else lnkC S n t (j + 1)
theorem lnkC_le {S : Nat → Nat → List Int} {n : Nat} : ∀ {t j : Nat}, j ≤ lnkC S n t j ∧ lnkC S n t j ≤ j + t
  | 0, j => by rw [lnkC]; omega
  | t + 1, j => by
    rw [lnkC]
    split
    · omega
    · have := lnkC_le (S := S) (n := n) (t := t) (j := j + 1); omega
def ints (l : List Nat) : List Int := l.map fun i : Nat => (i : Int)
/-- the lesser one of two chains -/
def lesser (l : List Nat) : Option (List Nat) → List Nat
  | none => l
  | some c => if cmpI (ints l) (ints c) < 0 then l else c
/-- the first chain below 0 of j links through one of t nodes, from i on -/
def best (L : List Lk) (S : Nat → Nat → List Int) (j : Nat) : Nat → Nat → Option (List Nat) → Option (Option (List Nat))
  | 0, _, b => some b
  | t + 1, i, b => if 0 ≤ (S i j).getD i 0 then best L S j t (i + 1) b else
    match fst L (S i) j i (-1) with
    | none => none
    | some l => best L S j t (i + 1) (some (lesser l b))
def clash (n : Nat) (L : List Lk) (D : List Bool) : Option (Option (List Nat)) :=
  best L (fun v => sumsTo n L D v) (lnkC (fun v => sumsTo n L D v) n (n - 1) 1) n 0 none
theorem fst_len {L : List Lk} {S : Nat → List Int} : ∀ {k : Nat} {u most : Int} {l : List Nat}, fst L S k u most = some l → l.length = k
  | 0, _, _, l, h => by rw [fst] at h; obtain rfl := Option.some.inj h; rfl
  | k + 1, u, most, l, h => by
    rw [fst] at h
    split at h
    · cases h
    · obtain ⟨l', h1, rfl⟩ := Option.map_eq_some_iff.1 h
      rw [List.length_cons, fst_len h1]
theorem lesser_len {l : List Nat} {b : Option (List Nat)} {j : Nat} (h : l.length = j) (h2 : ∀ c, b = some c → c.length = j) : (lesser l b).length = j := by
  unfold lesser
  cases b with
  | none => exact h
  | some c => simp only; split; · exact h
              · exact h2 c rfl
/-- Clash -/
def clashE (n : Int) (L : List Lk) (k : Nat) : Option (List Nat × Int) :=
  if (check n L).1 ≠ 0 then some ([], (check n L).1) else if cons n.toNat L [] k then some ([], 5) else
  match clash n.toNat L [] with
  | some (some l) => some (l, 0)
  | _ => none
end Ch

/- The memory of package chain's clash: n functions that sumsTo has returned. -/
namespace Go.Proofs.YtemacokojdeimaaGreatDoor
open Go.RowKit

def fnV (kb b2 ab : Nat → Nat) (v : Nat) : Value := .func (.func 59) #[] #[.pointer (some ⟨kb v, 0, none⟩), .pointer (some ⟨b2 v, 0, none⟩), .pointer (some ⟨ab v, 0, none⟩)]

theorem CS.lower {W : World} {H H' kb b2 ab gb n : Nat} {R : Nat → Nat} {S : Nat → List Int} {kv K : Nat} (h : CS W H kb b2 ab gb n R S kv K) (hH : H' ≤ H) : CS W H' kb b2 ab gb n R S kv K :=
  ⟨h.k, h.b, h.a, h.r, h.rk, Nat.le_trans hH h.hk, Nat.le_trans hH h.ha, Nat.le_trans hH h.hb, fun i hi => Nat.le_trans hH (h.hr i hi), h.ka, h.ba, h.bk, h.ra⟩

/-- the functions of the nodes lo .. c-1; each block that they use has its node as owner -/
structure MS (W : World) (H tb gb n : Nat) (S : Nat → Nat → List Int) (kb b2 ab : Nat → Nat) (R : Nat → Nat → Nat) (K own : Nat → Nat) (lo c : Nat) : Prop where
  t : W.rowIs tb 71 n (fun v => if v < c then fnV kb b2 ab v else .nilFunc)
  cs : ∀ v, lo ≤ v → v < c → CS W H (kb v) (b2 v) (ab v) gb n (R v) (S v) (K v) (K v)
  k : ∀ v, lo ≤ v → v < c → K v ≤ 60
  ot : own tb = n
  ok : ∀ v, lo ≤ v → v < c → own (kb v) = v ∧ own (b2 v) = v ∧ own (ab v) = v ∧ ∀ i, i ≤ K v → own (R v i) = v
  cn : c ≤ n

theorem MS.but {W W' : World} {H tb gb n : Nat} {S : Nat → Nat → List Int} {kb b2 ab : Nat → Nat} {R : Nat → Nat → Nat} {K own : Nat → Nat} {lo lo' c : Nat} {T : Nat → Prop} (h : MS W H tb gb n S kb b2 ab R K own lo c) (hb : But T W W') (hlo : lo ≤ lo') (ht : ¬ T tb) (hT : ∀ b v, lo' ≤ v → v < c → own b = v → ¬ T b) : MS W' H tb gb n S kb b2 ab R K own lo' c := by
  refine ⟨hb.row h.t ht, fun v h1 h2 => ?_, fun v h1 h2 => h.k v (by omega) h2, h.ot, fun v h1 h2 => h.ok v (by omega) h2, h.cn⟩
  obtain ⟨o1, o2, o3, o4⟩ := h.ok v (by omega) h2
  exact (h.cs v (by omega) h2).but hb (hT _ v h1 h2 o1) (hT _ v h1 h2 o2) (hT _ v h1 h2 o3) (fun i hi => hT _ v h1 h2 (o4 i hi))
theorem MS.below {W W' : World} {H tb gb n : Nat} {S : Nat → Nat → List Int} {kb b2 ab : Nat → Nat} {R : Nat → Nat → Nat} {K own : Nat → Nat} {lo c : Nat} (h : MS W H tb gb n S kb b2 ab R K own lo c) (hb : Below W.heap.size W W') : MS W' H tb gb n S kb b2 ab R K own lo c :=
  h.but (T := fun _ => False) ((But.of_below hb).mono (fun _ _ h => h)) (Nat.le_refl _) (fun h => h) (fun _ _ _ _ _ h => h)

/-- one of the functions is called -/
theorem MS.call {W W' : World} {H tb gb n : Nat} {S : Nat → Nat → List Int} {kb b2 ab : Nat → Nat} {R : Nat → Nat → Nat} {K own : Nat → Nat} {lo c v j : Nat} {R' : Nat → Nat} (h : MS W H tb gb n S kb b2 ab R K own lo c) (h1 : lo ≤ v) (h2 : v < c) (hj : j ≤ 60)
    (hc : CS W' H (kb v) (b2 v) (ab v) gb n R' (S v) (max (K v) j) (max (K v) j)) (hR : ∀ i, i ≤ K v → R' i = R v i) (hb : But (fun b => b = kb v ∨ b = ab v) W W') (hn : ∀ i, K v < i → i ≤ max (K v) j → W.heap.size ≤ R' i) :
    MS W' H tb gb n S kb b2 ab (fun u => if u = v then R' else R u) (fun u => if u = v then max (K v) j else K u) (fun b => if b < W.heap.size then own b else v) lo c := by
  obtain ⟨p1, p2, p3, p4⟩ := h.ok v h1 h2
  have hcn := h.cn
  have cv := h.cs v h1 h2
  have hot := h.ot
  refine ⟨hb.row h.t (fun e => ?_), fun u u1 u2 => ?_, fun u u1 u2 => ?_, ?_, fun u u1 u2 => ?_, h.cn⟩
  · rcases e with e | e
    · rw [← e, hot] at p1; omega
    · rw [← e, hot] at p3; omega
  · by_cases e : u = v
    · subst e; simp only [if_true]; exact hc
    · simp only [if_neg e]
      obtain ⟨o1, o2, o3, o4⟩ := h.ok u u1 u2
      exact (h.cs u u1 u2).but hb (by rintro (e2 | e2) <;> (rw [e2] at o1; omega)) (by rintro (e2 | e2) <;> (rw [e2] at o2; omega)) (by rintro (e2 | e2) <;> (rw [e2] at o3; omega)) (fun i hi => by have := o4 i hi; rintro (e2 | e2) <;> (rw [e2] at this; omega))
  · by_cases e : u = v
    · subst e; simp only [if_true]; have := h.k u u1 u2; omega
    · simp only [if_neg e]; exact h.k u u1 u2
  · simp only [if_pos h.t.lt]; exact hot
  · have cu := h.cs u u1 u2
    obtain ⟨o1, o2, o3, o4⟩ := h.ok u u1 u2
    have l1 := cu.k.lt
    have l2 := cu.b.lt
    have l3 : ab u < W.heap.size := by obtain ⟨A, a1, _⟩ := cu.a; exact a1.lt
    refine ⟨by simp only [if_pos l1]; exact o1, by simp only [if_pos l2]; exact o2, by simp only [if_pos l3]; exact o3, fun i hi => ?_⟩
    by_cases e : u = v
    · subst e
      simp only [if_true] at hi ⊢
      by_cases e2 : i ≤ K u
      · have l4 : R u i < W.heap.size := by obtain ⟨f, f1, _⟩ := cu.r i e2; exact f1.lt
        rw [hR i e2, if_pos l4]; exact o4 i e2
      · rw [if_neg (by have := hn i (by omega) hi; omega)]
    · simp only [if_neg e] at hi ⊢
      have l4 : R u i < W.heap.size := by obtain ⟨f, f1, _⟩ := cu.r i hi; exact f1.lt
      rw [if_pos l4]; exact o4 i hi

/-- one function more -/
theorem MS.add {W : World} {H tb gb n : Nat} {S : Nat → Nat → List Int} {kb b2 ab : Nat → Nat} {R : Nat → Nat → Nat} {K own : Nat → Nat} {c k' b' a' B : Nat} {R' : Nat → Nat} (h : MS W H tb gb n S kb b2 ab R K own 0 c) (hc : c < n) (htB : tb < B) (hHB : H ≤ B) (hs : CS W B k' b' a' gb n R' (S c) 0 0)
    (hl : ∀ v, v < c → kb v < B ∧ b2 v < B ∧ ab v < B ∧ ∀ i, i ≤ K v → R v i < B) :
    ∃ kb' b2' ab' R2 K' own', MS (W.setCell ⟨tb, c, none⟩ (.func (.func 59) #[] #[.pointer (some ⟨k', 0, none⟩), .pointer (some ⟨b', 0, none⟩), .pointer (some ⟨a', 0, none⟩)])) H tb gb n S kb' b2' ab' R2 K' own' 0 (c + 1) := by
  refine ⟨fun v => if v = c then k' else kb v, fun v => if v = c then b' else b2 v, fun v => if v = c then a' else ab v, fun v => if v = c then R' else R v, fun v => if v = c then 0 else K v, fun b => if b < B then own b else c, ?_⟩
  have hb : But (fun k => k = tb) W (W.setCell ⟨tb, c, none⟩ (.func (.func 59) #[] #[.pointer (some ⟨k', 0, none⟩), .pointer (some ⟨b', 0, none⟩), .pointer (some ⟨a', 0, none⟩)])) := (But.refl (fun k => k = tb) W).setCell (p := ⟨tb, c, none⟩) (.inr rfl) _
  have hot := h.ot
  refine ⟨(h.t.set c _).congr (fun i hi => ?_), fun u _ u2 => ?_, fun u _ u2 => ?_, by simp only [if_pos htB]; exact hot, fun u _ u2 => ?_, hc⟩
  · by_cases e : i = c
    · subst e
      rw [if_pos rfl, if_pos (by omega)]
      unfold fnV
      simp only [if_true]
    · rw [if_neg e]
      by_cases e2 : i < c
      · rw [if_pos e2, if_pos (by omega)]
        unfold fnV
        simp only [if_neg e]
      · rw [if_neg e2, if_neg (by omega)]
  · by_cases e : u = c
    · subst e
      simp only [if_true]
      have h1 := hs.hk
      have h2 := hs.hb
      have h3 := hs.ha
      exact (hs.but hb (by intro e; have e : k' = tb := e; omega) (by intro e; have e : b' = tb := e; omega) (by intro e; have e : a' = tb := e; omega) (fun i hi => by have := hs.hr i hi; intro e; have e : R' i = tb := e; omega)).lower hHB
    · simp only [if_neg e]
      obtain ⟨o1, o2, o3, o4⟩ := h.ok u (Nat.zero_le _) (by omega)
      exact (h.cs u (Nat.zero_le _) (by omega)).but hb (by intro e; have e : kb u = tb := e; rw [e, hot] at o1; omega) (by intro e; have e : b2 u = tb := e; rw [e, hot] at o2; omega) (by intro e; have e : ab u = tb := e; rw [e, hot] at o3; omega) (fun i hi => by have := o4 i hi; intro e; have e : R u i = tb := e; rw [e, hot] at this; omega)
  · by_cases e : u = c
    · simp only [if_pos e]; omega
    · simp only [if_neg e]; exact h.k u (Nat.zero_le _) (by omega)
  · by_cases e : u = c
    · subst e
      simp only [if_true]
      have h1 := hs.hk
      have h2 := hs.hb
      have h3 := hs.ha
      exact ⟨if_neg (by omega), if_neg (by omega), if_neg (by omega), fun i hi => if_neg (by have := hs.hr i hi; omega)⟩
    · simp only [if_neg e]
      obtain ⟨o1, o2, o3, o4⟩ := h.ok u (Nat.zero_le _) (by omega)
      obtain ⟨q1, q2, q3, q4⟩ := hl u (by omega)
      exact ⟨by rw [if_pos q1]; exact o1, by rw [if_pos q2]; exact o2, by rw [if_pos q3]; exact o3, fun i hi => by rw [if_pos (q4 i hi)]; exact o4 i hi⟩
end Go.Proofs.YtemacokojdeimaaGreatDoor

/- Contracts of package chain: clash. -/
namespace Go.Proofs.YtemacokojdeimaaGreatDoor
open Go.RowKit

theorem infoLs : (Tryz.prog.info? 71).map (fun i => (i.zero, i.size, i.bytes)) = some (some .nilFunc, 1, 8) := by kernel_rfl

/-- the least chain so far -/
def FV (W : World) (B n : Nat) (own : Nat → Nat) (fv : Value) (b : Option (List Nat)) (j : Nat) : Prop :=
  match b with
  | none => fv = .slice none 0 0
  | some c => c.length = j ∧ ∃ g cp, fv = .slice (some ⟨g, 0, none⟩) j cp ∧ own g = n ∧ g < W.heap.size ∧ W.ownsRow B 3 1 fv c.length (c.map fun i : Nat => Value.int .i64 (i : Int))
theorem FV.but {W W' : World} {B n : Nat} {own own' : Nat → Nat} {fv : Value} {b : Option (List Nat)} {j : Nat} {T : Nat → Prop} (h : FV W B n own fv b j) (hb : But T W W') (hT : ∀ g, own g = n → ¬ T g) (ho : ∀ g, g < W.heap.size → own' g = own g) : FV W' B n own' fv b j := by
  cases b with
  | none => exact h
  | some c =>
    obtain ⟨h1, g, cp, h2, h3, h4, h5⟩ := h
    exact ⟨h1, g, cp, h2, by rw [ho g h4]; exact h3, Nat.lt_of_lt_of_le h4 hb.size, owns_but h5 hb (fun q hq => by rw [h2] at hq; cases hq; exact hT g h3)⟩
theorem MS.own {W : World} {H tb gb n : Nat} {S : Nat → Nat → List Int} {kb b2 ab : Nat → Nat} {R : Nat → Nat → Nat} {K own own' : Nat → Nat} {lo c : Nat} (h : MS W H tb gb n S kb b2 ab R K own lo c) (ho : ∀ g, g < W.heap.size → own' g = own g) : MS W H tb gb n S kb b2 ab R K own' lo c := by
  refine ⟨h.t, h.cs, h.k, by rw [ho _ h.t.lt]; exact h.ot, fun u u1 u2 => ?_, h.cn⟩
  have cu := h.cs u u1 u2
  obtain ⟨o1, o2, o3, o4⟩ := h.ok u u1 u2
  have l3 : ab u < W.heap.size := by obtain ⟨A, a1, _⟩ := cu.a; exact a1.lt
  exact ⟨by rw [ho _ cu.k.lt]; exact o1, by rw [ho _ cu.b.lt]; exact o2, by rw [ho _ l3]; exact o3, fun i hi => by
    have l4 : R u i < W.heap.size := by obtain ⟨f, f1, _⟩ := cu.r i hi; exact f1.lt
    rw [ho _ l4]; exact o4 i hi⟩
theorem ints_of_owns {W : World} {B g cp : Nat} {c : List Nat} {q : Nat} (h : W.ownsRow B 3 1 (.slice (some ⟨g, 0, none⟩) q cp) c.length (c.map fun i : Nat => Value.int .i64 (i : Int))) : IntsAt W (some ⟨g, 0, none⟩) (Ch.ints c) := by
  intro k hk
  have hk2 : k < c.length := by simpa [Ch.ints] using hk
  obtain ⟨g', cp', f, h1, _, h3, _, h5, h6⟩ := owns_row h (by omega)
  simp only [Value.slice.injEq, Option.some.injEq, Addr.mk.injEq] at h1
  obtain ⟨⟨rfl, _⟩, _, rfl⟩ := h1
  refine ⟨_, rfl, ?_⟩
  have e : (⟨g, 0, none⟩ : Addr).add k = ⟨g, k, none⟩ := by unfold Addr.add; split <;> simp_all
  rw [e, h5.cell (i := k) (by omega)]
  have h7 := h6 k hk2
  rw [List.getElem?_map, List.getElem?_eq_getElem hk2] at h7
  unfold Ch.ints
  rw [List.getD, List.getElem?_map, List.getElem?_eq_getElem hk2]
  simpa using h7.symm

/-- what clash leaves -/
def KlPost (w : World) (l : List Nat) (e : Ending) (w' : World) : Prop :=
  ∃ v, e = .returned v ∧ w'.ownsRow w.heap.size 3 1 v l.length (l.map fun i : Nat => Value.int .i64 (i : Int)) ∧ Below w.heap.size w w'

set_option maxRecDepth 100000 in
set_option maxHeartbeats 4000000 in
theorem clash_any (n gb : Nat) (n1 : 1 ≤ n) (n2 : n ≤ 60) (L : List Ch.Lk) (drop : List Bool) (H ib db m : Nat) (a : Option Addr) (cap0 : Nat) (V : Nat → Value) (l : List Nat) (hl : Hid (Ch.clash n L drop = some (some l))) (w : World) (G : Hid (Gr w H gb ib db n m a cap0 V L (fun i => drop.getD i false))) :
    Calls Tryz.prog 44 #[.pointer (some ⟨gb, 0, none⟩)] w (KlPost w l) := by
  have hmk := run_make_row' (P := Tryz.prog) 113 71 .nilFunc 8 Tryz.underlying113 infoLs rfl .i64 .i64 n (by omega) (by omega)
  have g0 : w.cell? ⟨gb, 0, none⟩ = some (.int .i64 n) := G.out.g.cell (i := 0) (by omega)
  have hM0 : MS (w.alloc (Obj.cells (madeCells #[.nilFunc] n) 71)) w.heap.size w.heap.size gb n (fun v => Ch.sumsTo n L drop v) (fun _ => 0) (fun _ => 0) (fun _ => 0) (fun _ _ => 0) (fun _ => 0) (fun _ => n) 0 0 :=
    ⟨(World.rowIs_made w .nilFunc n _).congr (fun i _ => by rw [if_neg (by omega)]), fun v _ h => by omega, fun v _ h => by omega, rfl, fun v _ h => by omega, Nat.zero_le _⟩
  have hB0 : Below w.heap.size w (w.alloc (Obj.cells (madeCells #[.nilFunc] n) 71)) := below_alloc (Below.refl _ _) _
  replace hM0 := Lib.hid hM0
  go_enter Tryz.func44, Tryz.ntmps44
  go_wp2
  go_step3
  go_wp2
  clear hmk
  generalize w.alloc (Obj.cells (madeCells #[.nilFunc] n) 71) = X at *
  generalize htb : w.heap.size = tb at *
  replace htb := Lib.hid htb
  go_loopw [19] (fun x wr => ∃ (c : Nat) (kb b2 ab : Nat → Nat) (R : Nat → Nat → Nat) (K own : Nat → Nat), c ≤ n ∧ x = .int .i64 (c : Int) ∧ Hid (MS wr tb tb gb n (fun v => Ch.sumsTo n L drop v) kb b2 ab R K own 0 c) ∧ Hid (Below tb w wr)) (fun x _ => n - (RowKit.intOf x).toNat)
  case atStart => exact ⟨0, _, _, _, _, _, _, Nat.zero_le _, rfl, hM0, Lib.hid hB0⟩
  case round =>
    clear hM0 hB0
    obtain ⟨c, kb, b2, ab, R, K, own, hc, rfl, HM, HB⟩ := hrel
    by_cases hlt : c < n
    · have hi5 : (c : Int) < (n : Int) := by omega
      have Gw := Lib.hid (G.out.high.below (w := w) (by rw [htb.out]; exact HB.out))
      have HS := Lib.hid (sumsTo_any n gb n1 n2 c hlt L drop wr (Gw.out.g.cell (i := 0) (by omega)))
      go_wp2_with fail
      refine HS.out.mono ?_
      rintro e w1 ⟨k', b', a', R', rfl, hC, hb⟩
      have hM1 := HM.out.below hb
      have hsw : tb ≤ wr.heap.size := by have := HM.out.t.lt; omega
      have ct := hM1.t.cell (i := c) hlt
      have cf := hM1.t.frozen c
      have hlw : ∀ v, v < c → kb v < wr.heap.size ∧ b2 v < wr.heap.size ∧ ab v < wr.heap.size ∧ ∀ i, i ≤ K v → R v i < wr.heap.size := fun v hv => by
        have cu := HM.out.cs v (Nat.zero_le _) hv
        exact ⟨cu.k.lt, cu.b.lt, by obtain ⟨A, a1, _⟩ := cu.a; exact a1.lt, fun i hi => by obtain ⟨f, f1, _⟩ := cu.r i hi; exact f1.lt⟩
      have hM2 := Lib.hid (hM1.add hlt HM.out.t.lt (Nat.le_of_lt HM.out.t.lt) hC hlw)
      have hB2 := Lib.hid ((HB.out.trans (hb.mono hsw)).setCell (p := ⟨tb, c, none⟩) (Nat.le_refl _) (.func (.func 59) #[] #[.pointer (some ⟨k', 0, none⟩), .pointer (some ⟨b', 0, none⟩), .pointer (some ⟨a', 0, none⟩)]))
      clear hM1 hlw hb HS hC HM HB
      obtain ⟨kb3, b3, ab3, R3, K3, own3, hM3⟩ := hM2.out
      clear hM2
      replace hM3 := Lib.hid hM3
      go_wp2
      go_roundw
      case rel => exact ⟨c + 1, _, _, _, _, _, _, by omega, by go_num, hM3, hB2⟩
      case measure => show n - ((c : Int) + 1).toNat < n - (c : Int).toNat; omega
    · obtain rfl : n = c := by omega
      have hi5 : ¬ (n : Int) < (n : Int) := by omega
      go_wp2_with fail
      go_step3
      go_wp2
      rename_i K9 hK9
      have hJ : ∀ (j : Nat) (v6 v7 v29 v30 v31 v32 v33 v34 v35 v36 v37 v38 v39 v40 v41 v42 v43 v44 v45 v46 v47 v48 v49 v50 v51 : Value) (kb b2 ab : Nat → Nat) (R : Nat → Nat → Nat) (K own : Nat → Nat) (W : World), 1 ≤ j → j ≤ n → Hid (Ch.best L (fun v => Ch.sumsTo n L drop v) j n 0 none = some (some l)) → Hid (MS W tb tb gb n (fun v => Ch.sumsTo n L drop v) kb b2 ab R K own 0 n) → Hid (Below tb w W) → K9 { tmps := #[.pointer (some ⟨gb, 0, none⟩), undef, .slice none 0 0, .slice (some ⟨tb, 0, none⟩) n n, u4, .int .i64 (j : Int), v6, v7, undef, undef, undef, undef, .pointer (some ⟨gb, 0, none⟩), .pointer (some ⟨gb, 0, none⟩), .pointer (some ⟨gb, 0, none⟩), .int .i64 n, .slice (some ⟨tb, 0, none⟩) n n, .slice (some ⟨tb, 0, none⟩) n n, .int .i64 n, .int .i64 n, .bool false, u21, u22, u23, u24, u25, u26, u27, u28, v29, v30, v31, v32, v33, v34, v35, v36, v37, v38, v39, v40, v41, v42, v43, v44, v45, v46, v47, v48, v49, v50, v51, undef, undef, undef, undef, undef, undef, undef, undef, undef, undef, undef, undef, undef, undef, undef, undef, undef, undef, undef, undef, undef, undef, undef, undef, undef, undef, undef, undef, undef, undef], defers := [] } W := by
        clear HM HB
        clear kb b2 ab R K own
        intro j v6 v7 v29 v30 v31 v32 v33 v34 v35 v36 v37 v38 v39 v40 v41 v42 v43 v44 v45 v46 v47 v48 v49 v50 v51 kb b2 ab R K own W j1 j2 hbest HM HB
        refine hK9 _ _ ?_
        clear hK9
        go_wp2
        go_loopw [8, 54] (fun fv x wr => ∃ (i : Nat) (b : Option (List Nat)) (kb b2 ab : Nat → Nat) (R : Nat → Nat → Nat) (K own : Nat → Nat), i ≤ n ∧ x = .int .i64 (i : Int) ∧ Hid (Ch.best L (fun v => Ch.sumsTo n L drop v) j (n - i) i b = some (some l)) ∧ Hid (MS wr tb tb gb n (fun v => Ch.sumsTo n L drop v) kb b2 ab R K own i n) ∧ Hid (FV wr tb n own fv b j) ∧ Hid (Below tb w wr)) (fun _ x _ => n - (RowKit.intOf x).toNat)
        case atStart => exact ⟨0, none, _, _, _, _, _, _, Nat.zero_le _, rfl, hbest, HM, Lib.hid rfl, HB⟩
        case round =>
          clear hbest HM HB
          clear kb b2 ab R K own
          obtain ⟨i, b, kb, b2, ab, R, K, own, hi, rfl, hbest, HM, HF, HB⟩ := hrel
          by_cases hlt : i < n
          · have hi5 : (i : Int) < (n : Int) := by omega
            have ct := HM.out.t.cell (i := i) hlt
            rw [if_pos hlt, fnV] at ct
            have Gw := Lib.hid (G.out.high.below (w := w) (by rw [htb.out]; exact HB.out))
            have HSu := Lib.hid (sums_any n gb i n1 n2 L drop tb (kb i) (b2 i) (ab i) ib db m a cap0 V (R i) (K i) j (by omega) (HM.out.k i (Nat.le_refl _) hlt) wr (by rw [← htb.out]; exact Gw) (Lib.hid (HM.out.cs i (Nat.le_refl _) hlt)))
            have hst : Ch.best L (fun v => Ch.sumsTo n L drop v) j (n - i) i b = if 0 ≤ (Ch.sumsTo n L drop i j).getD i 0 then Ch.best L (fun v => Ch.sumsTo n L drop v) j (n - (i + 1)) (i + 1) b else match Ch.fst L (Ch.sumsTo n L drop i) j i (-1) with
                | none => none
                | some l => Ch.best L (fun v => Ch.sumsTo n L drop v) j (n - (i + 1)) (i + 1) (some (Ch.lesser l b)) := by
              rw [show n - i = (n - (i + 1)) + 1 by omega, Ch.best]
              try rfl
            rw [hbest.out] at hst
            obtain ⟨y, hy⟩ : ∃ y, (Ch.sumsTo n L drop i j).getD i 0 = y := ⟨_, rfl⟩
            rw [hy] at hst
            replace hy := Lib.hid hy
            replace hst := Lib.hid hst
            clear Gw hbest
            go_wp2_with fail
            refine HSu.out.mono ?_
            rintro e w1 ⟨R', rfl, hC, hR, hb, hn⟩
            have hs1 := hb.size
            have hot := HM.out.ot
            obtain ⟨g, g1, g2⟩ := hC.r j (by omega)
            have cy := g1.cell (i := i) (by omega)
            rw [g2 i (by omega), hy.out] at cy
            have HM1 := Lib.hid (HM.out.call (Nat.le_refl _) hlt (by omega) hC hR hb hn)
            obtain ⟨p1, p2, p3, p4⟩ := HM.out.ok i (Nat.le_refl _) hlt
            have hcn := HM.out.cn
            have tk : tb ≠ kb i := fun e => by rw [e, p1] at hot; omega
            have ta : tb ≠ ab i := fun e => by rw [e, p3] at hot; omega
            have HF1 := Lib.hid (FV.but (own' := fun b => if b < wr.heap.size then own b else i) HF.out hb (fun g hg => by rintro (e | e) <;> (rw [e] at hg; omega)) (fun g hg => if_pos hg))
            have hkt := (HM.out.cs i (Nat.le_refl _) hlt).hk
            have hat := (HM.out.cs i (Nat.le_refl _) hlt).ha
            have hsw : tb ≤ wr.heap.size := Nat.le_of_lt HM.out.t.lt
            have HB1 := Lib.hid (HB.out.trans (hb.below hsw (fun k hk e => by omega)))
            have hC1 := Lib.hid hC
            clear g1 g2 HSu hb hn hR hC HM HF HB ct
            by_cases hyz : 0 ≤ y
            · have hyd : (0 : Int) ≤ y := hyz
              have hb2 : Hid (Ch.best L (fun v => Ch.sumsTo n L drop v) j (n - (i + 1)) (i + 1) b = some (some l)) := Lib.hid (by have h := hst.out; rw [if_pos hyz] at h; exact h.symm)
              have HM2 := Lib.hid (HM1.out.but (But.refl (fun _ => False) w1) (lo' := i + 1) (by omega) (fun h => h) (fun _ _ _ _ _ h => h))
              clear hst HM1
              go_wp2
              go_roundw
              case rel => exact ⟨i + 1, b, _, _, _, _, _, _, by omega, by go_num, hb2, HM2, HF1, HB1⟩
              case measure => show n - ((i : Int) + 1).toNat < n - (i : Int).toNat; omega
            · have hyd : ¬ (0 : Int) ≤ y := hyz
              obtain ⟨l1, hl1, hb2⟩ : ∃ l1, Ch.fst L (Ch.sumsTo n L drop i) j i (-1) = some l1 ∧ Ch.best L (fun v => Ch.sumsTo n L drop v) j (n - (i + 1)) (i + 1) (some (Ch.lesser l1 b)) = some (some l) := by
                have h := hst.out
                rw [if_neg hyz] at h
                cases e : Ch.fst L (Ch.sumsTo n L drop i) j i (-1) with
                | none => rw [e] at h; cases h
                | some l1 => rw [e] at h; exact ⟨l1, rfl, h.symm⟩
              have hlen := Ch.fst_len hl1
              have Gw := Lib.hid (G.out.high.below (w := w) (by rw [htb.out]; exact HB1.out))
              have HFc := Lib.hid (firstChain_any n gb i n1 n2 L drop tb (kb i) (b2 i) (ab i) ib db m a cap0 V R' (max (K i) j) j (i : Int) (-1) ⟨by omega, by omega⟩ (by omega) (by omega) (by have := HM1.out.k i (Nat.le_refl _) hlt; simp only [if_true] at this; exact this) l1 (Lib.hid hl1) w1 (by rw [← htb.out]; exact Gw) hC1)
              replace hb2 := Lib.hid hb2
              clear hst hC1 Gw hl1
              go_wp2_with fail
              refine HFc.out.mono ?_
              rintro e w2 ⟨cv, rfl, hown, hb⟩
              obtain ⟨g, cp, f, rfl, hg, _, _, hrow, _⟩ := owns_row hown (by omega)
              rw [hlen]
              have hg2 := hrow.lt
              have hsw1 : tb ≤ w1.heap.size := Nat.le_of_lt HM1.out.t.lt
              have HM2 := Lib.hid ((HM1.out.own (own' := fun b => if b < w1.heap.size then (if b < wr.heap.size then own b else i) else n) (fun g hg => if_pos hg)).but hb (lo' := i + 1) (by omega) (fun e => e.elim tk ta) (fun q v v1 v2 ho => by
                have t1 := (HM1.out.cs i (Nat.le_refl _) hlt).k.lt
                have t2 : ab i < w1.heap.size := by obtain ⟨A, a1, _⟩ := (HM1.out.cs i (Nat.le_refl _) hlt).a; exact a1.lt
                obtain ⟨o1, _, o3, _⟩ := HM1.out.ok i (Nat.le_refl _) hlt
                rintro (e | e)
                · have o1' : (if kb i < wr.heap.size then own (kb i) else i) = i := o1
                  rw [e, if_pos t1, o1'] at ho; omega
                · have o3' : (if ab i < wr.heap.size then own (ab i) else i) = i := o3
                  rw [e, if_pos t2, o3'] at ho; omega))
              have HF2 := Lib.hid (FV.but (own' := fun b => if b < w1.heap.size then (if b < wr.heap.size then own b else i) else n) HF1.out hb (fun q ho => by
                have o1 : (if kb i < wr.heap.size then own (kb i) else i) = i := (HM1.out.ok i (Nat.le_refl _) hlt).1
                have o3 : (if ab i < wr.heap.size then own (ab i) else i) = i := (HM1.out.ok i (Nat.le_refl _) hlt).2.2.1
                rintro (e | e)
                · rw [e, o1] at ho; omega
                · rw [e, o3] at ho; omega) (fun g hg => if_pos hg))
              have HB2 := Lib.hid (HB1.out.trans (hb.below hsw1 (fun k hk e => by omega)))
              have hown2 := Lib.hid (owns_base hown hsw1)
              have hown9 : w2.ownsRow w1.heap.size 3 1 (.slice (some ⟨g, 0, none⟩) j cp) l1.length (l1.map fun i : Nat => Value.int .i64 (i : Int)) := by have h := hown; rw [hlen] at h ⊢; exact h
              have hI1 := Lib.hid (ints_of_owns hown9)
              clear hown9
              have hl1i : (Ch.ints l1).length = j := by unfold Ch.ints; rw [List.length_map]; exact hlen
              replace hl1i := Lib.hid hl1i
              have hFV : Hid (FV w2 tb n (fun b => if b < w1.heap.size then (if b < wr.heap.size then own b else i) else n) (.slice (some ⟨g, 0, none⟩) j cp) (some l1) j) := Lib.hid ⟨hlen, g, cp, rfl, if_neg (by omega), hg2, by have h := hown2.out; rw [hlen] at h ⊢; exact h⟩
              clear hb hown HM1 HF1 HB1 HFc hrow hown2
              cases b with
              | none =>
                have hfv : u8 = .slice none 0 0 := HF2.out
                subst hfv
                have hnil := fun w => Lib.run_eql_slice_nil (P := Tryz.prog) w 41 3 none 0 0 0 0 Tryz.underlying41
                simp only [Option.isNone] at hnil
                clear HF2
                go_wp2
                go_roundw
                case rel => exact ⟨i + 1, some l1, _, _, _, _, _, _, by omega, by go_num, hb2, HM2, hFV, HB2⟩
                case measure => show n - ((i : Int) + 1).toNat < n - (i : Int).toNat; omega
              | some c =>
                obtain ⟨c1, g', cp', c2, c3, c4, c5⟩ := HF2.out
                subst c2
                have hnil := fun w => Lib.run_eql_slice_nil (P := Tryz.prog) w 41 3 (some ⟨g', 0, none⟩) j cp' 0 0 Tryz.underlying41
                simp only [Option.isNone] at hnil
                have hI2 := Lib.hid (ints_of_owns c5)
                have hl2i : Hid ((Ch.ints c).length = j) := Lib.hid (by unfold Ch.ints; rw [List.length_map]; exact c1)
                have HCp := Lib.hid (compare_any (some ⟨g, 0, none⟩) (some ⟨g', 0, none⟩) j j cp cp' (by omega) (Ch.ints l1) (Ch.ints c) hl1i hl2i w2 hI1 hI2 _ (Lib.hid rfl))
                have hles : Ch.lesser l1 (some c) = if Ch.cmpI (Ch.ints l1) (Ch.ints c) < 0 then l1 else c := rfl
                obtain ⟨r, hr⟩ : ∃ r, Ch.cmpI (Ch.ints l1) (Ch.ints c) = r := ⟨_, rfl⟩
                rw [hr] at HCp hles
                clear hr c5
                by_cases hr0 : r < 0
                · rw [if_pos hr0] at hles
                  replace hb2 : Hid (Ch.best L (fun v => Ch.sumsTo n L drop v) j (n - (i + 1)) (i + 1) (some l1) = some (some l)) := Lib.hid (by rw [← hles]; exact hb2.out)
                  clear hles
                  go_wp2_with fail
                  refine HCp.out.mono ?_
                  rintro e w3 ⟨rfl, hw3⟩
                  subst hw3
                  go_wp2
                  go_roundw
                  case rel => exact ⟨i + 1, some l1, _, _, _, _, _, _, by omega, by go_num, hb2, HM2, hFV, HB2⟩
                  case measure => show n - ((i : Int) + 1).toNat < n - (i : Int).toNat; omega
                · rw [if_neg hr0] at hles
                  replace hb2 : Hid (Ch.best L (fun v => Ch.sumsTo n L drop v) j (n - (i + 1)) (i + 1) (some c) = some (some l)) := Lib.hid (by rw [← hles]; exact hb2.out)
                  clear hles
                  go_wp2_with fail
                  refine HCp.out.mono ?_
                  rintro e w3 ⟨rfl, hw3⟩
                  subst hw3
                  go_wp2
                  go_roundw
                  case rel => exact ⟨i + 1, some c, _, _, _, _, _, _, by omega, by go_num, hb2, HM2, HF2, HB2⟩
                  case measure => show n - ((i : Int) + 1).toNat < n - (i : Int).toNat; omega
          · obtain rfl : i = n := by omega
            have hi5 : ¬ (i : Int) < (i : Int) := by omega
            have hbl : b = some l := by
              have h := hbest.out
              rw [Nat.sub_self, Ch.best] at h
              exact Option.some.inj h
            subst hbl
            obtain ⟨f1, g, cp, f2, f3, f4, f5⟩ := HF.out
            subst f2
            go_wp2
            go_ret
            have e := htb.out
            exact ⟨_, rfl, by rw [e]; exact f5, by rw [e]; exact HB.out⟩
      clear hK9
      obtain ⟨jj, hjj⟩ : ∃ jj, Ch.lnkC (fun v => Ch.sumsTo n L drop v) n (n - 1) 1 = jj := ⟨_, rfl⟩
      have hbest : Hid (Ch.best L (fun v => Ch.sumsTo n L drop v) jj n 0 none = some (some l)) := Lib.hid (by have h := hl.out; unfold Ch.clash at h; rw [hjj] at h; exact h)
      replace hjj := Lib.hid hjj
      replace hJ := Lib.hid hJ
      go_loopw [5] (fun x wr => ∃ (j : Nat) (kb b2 ab : Nat → Nat) (R : Nat → Nat → Nat) (K own : Nat → Nat), 1 ≤ j ∧ j ≤ n ∧ x = .int .i64 (j : Int) ∧ Hid (Ch.lnkC (fun v => Ch.sumsTo n L drop v) n (n - j) j = jj) ∧ Hid (MS wr tb tb gb n (fun v => Ch.sumsTo n L drop v) kb b2 ab R K own 0 n) ∧ Hid (Below tb w wr)) (fun x _ => n - (RowKit.intOf x).toNat)
      case atStart => exact ⟨1, _, _, _, _, _, _, Nat.le_refl _, n1, rfl, hjj, HM, HB⟩
      case round =>
        clear HM HB hjj
        clear kb b2 ab R K own
        obtain ⟨j, kb, b2, ab, R, K, own, j1, j2, rfl, hln, HM, HB⟩ := hrel
        have gw0 : wr.cell? ⟨gb, 0, none⟩ = some (.int .i64 n) := by
          have Gw := G.out.high.below (w := w) (by rw [htb.out]; exact HB.out)
          exact Gw.g.cell (i := 0) (by omega)
        by_cases hjn : j < n
        · have hi6 : (j : Int) < (n : Int) := by omega
          have hst : Ch.lnkC (fun v => Ch.sumsTo n L drop v) n (n - j) j = if Ch.neg (fun v => Ch.sumsTo n L drop v) j n 0 then j else Ch.lnkC (fun v => Ch.sumsTo n L drop v) n (n - (j + 1)) (j + 1) := by
            rw [show n - j = (n - (j + 1)) + 1 by omega, Ch.lnkC]
          rw [hln.out] at hst
          replace hst := Lib.hid hst
          clear hln
          go_wp2
          go_loopw [39] (fun x wr => ∃ (i : Nat) (kb b2 ab : Nat → Nat) (R : Nat → Nat → Nat) (K own : Nat → Nat), i ≤ n ∧ x = .int .i64 (i : Int) ∧ Hid (Ch.neg (fun v => Ch.sumsTo n L drop v) j (n - i) i = Ch.neg (fun v => Ch.sumsTo n L drop v) j n 0) ∧ Hid (MS wr tb tb gb n (fun v => Ch.sumsTo n L drop v) kb b2 ab R K own 0 n) ∧ Hid (Below tb w wr)) (fun x _ => n - (RowKit.intOf x).toNat)
          case atStart => exact ⟨0, _, _, _, _, _, _, Nat.zero_le _, rfl, Lib.hid rfl, HM, HB⟩
          case round =>
            clear HM HB gw0
            clear kb b2 ab R K own
            obtain ⟨i, kb, b2, ab, R, K, own, hi, rfl, hneg, HM, HB⟩ := hrel
            by_cases hlt : i < n
            · have hi5 : (i : Int) < (n : Int) := by omega
              have ct := HM.out.t.cell (i := i) hlt
              rw [if_pos hlt, fnV] at ct
              have Gw := Lib.hid (G.out.high.below (w := w) (by rw [htb.out]; exact HB.out))
              have HSu := Lib.hid (sums_any n gb i n1 n2 L drop tb (kb i) (b2 i) (ab i) ib db m a cap0 V (R i) (K i) j (by omega) (HM.out.k i (Nat.zero_le _) hlt) wr (by rw [← htb.out]; exact Gw) (Lib.hid (HM.out.cs i (Nat.zero_le _) hlt)))
              have hng : Ch.neg (fun v => Ch.sumsTo n L drop v) j (n - i) i = (decide ((Ch.sumsTo n L drop i j).getD i 0 < 0) || Ch.neg (fun v => Ch.sumsTo n L drop v) j (n - (i + 1)) (i + 1)) := by
                rw [show n - i = (n - (i + 1)) + 1 by omega, Ch.neg]
              rw [hneg.out] at hng
              obtain ⟨y, hy⟩ : ∃ y, (Ch.sumsTo n L drop i j).getD i 0 = y := ⟨_, rfl⟩
              simp only [hy] at hng
              replace hy := Lib.hid hy
              replace hng := Lib.hid hng
              clear Gw hneg
              go_wp2_with fail
              refine HSu.out.mono ?_
              rintro e w1 ⟨R', rfl, hC, hR, hb, hn⟩
              obtain ⟨g, g1, g2⟩ := hC.r j (by omega)
              have cy := g1.cell (i := i) (by omega)
              rw [g2 i (by omega), hy.out] at cy
              have HM1 := Lib.hid (HM.out.call (Nat.zero_le _) hlt (by omega) hC hR hb hn)
              have hkt := (HM.out.cs i (Nat.zero_le _) hlt).hk
              have hat := (HM.out.cs i (Nat.zero_le _) hlt).ha
              have hsw : tb ≤ wr.heap.size := Nat.le_of_lt HM.out.t.lt
              have HB1 := Lib.hid (HB.out.trans (hb.below hsw (fun k hk e => by omega)))
              clear g1 g2 HSu hb hn hR hC HM HB ct
              by_cases hyz : y < 0
              · have hjj2 : jj = j := by
                  have h := hst.out
                  rw [hng.out, decide_eq_true hyz, Bool.true_or, if_pos rfl] at h
                  exact h
                subst hjj2
                clear hst hng
                go_wp2_with fail
                exact hJ.out _ _ _ _ _ _ _ _ _ _ _ _ _ _ _ _ _ _ _ _ _ _ _ _ _ _ _ _ _ _ _ _ _ j1 j2 hbest HM1 HB1
              · have hng2 : Hid (Ch.neg (fun v => Ch.sumsTo n L drop v) j (n - (i + 1)) (i + 1) = Ch.neg (fun v => Ch.sumsTo n L drop v) j n 0) := Lib.hid (by have h := hng.out; rw [decide_eq_false hyz, Bool.false_or] at h; exact h.symm)
                clear hng
                go_wp2
                go_roundw
                case rel => exact ⟨i + 1, _, _, _, _, _, _, by omega, by go_num, hng2, HM1, HB1⟩
                case measure => show n - ((i : Int) + 1).toNat < n - (i : Int).toNat; omega
            · obtain rfl : i = n := by omega
              have hi5 : ¬ (i : Int) < (i : Int) := by omega
              have hln2 : Hid (Ch.lnkC (fun v => Ch.sumsTo i L drop v) i (i - (j + 1)) (j + 1) = jj) := Lib.hid (by
                have h := hst.out
                have h2 := hneg.out
                rw [Nat.sub_self, Ch.neg] at h2
                rw [← h2, if_neg (by decide)] at h
                exact h.symm)
              clear hst hneg
              go_wp2
              go_roundw
              case rel => exact ⟨j + 1, _, _, _, _, _, _, by omega, by omega, by go_num, hln2, HM, HB⟩
              case measure => show i - ((j : Int) + 1).toNat < i - (j : Int).toNat; omega
        · obtain rfl : j = n := by omega
          have hi6 : ¬ (j : Int) < (j : Int) := by omega
          have hjj2 : jj = j := by
            have h := hln.out
            rw [Nat.sub_self, Ch.lnkC] at h
            exact h.symm
          subst hjj2
          go_wp2_with fail
          exact hJ.out _ _ _ _ _ _ _ _ _ _ _ _ _ _ _ _ _ _ _ _ _ _ _ _ _ _ _ _ _ _ _ _ _ j1 (Nat.le_refl _) hbest HM HB
end Go.Proofs.YtemacokojdeimaaGreatDoor

/- Contracts of package chain: Clash. -/
namespace Go.Proofs.YtemacokojdeimaaGreatDoor
open Go.RowKit

set_option maxRecDepth 100000 in
set_option maxHeartbeats 4000000 in
theorem clashE_any (n : Int) (a : Option Addr) (cap : Nat) (L : List Ch.Lk) (k : Nat) (hE : (Ch.check n L).1 = 0 → Ch.enough n.toNat L [] k = true) (l : List Nat) (er : Int) (hR : Ch.clashE n L k = some (l, er)) (w : World) (hL : LksAt w a L) :
    Calls Tryz.prog 22 #[sysV n a L.length cap] w (ChPost w l er) := by
  have hB0 : Below w.heap.size w (w.alloc (Obj.cells #[.int .i64 n, .slice a L.length cap] 24)) := below_alloc (Below.refl _ _) _
  have HC := Lib.hid (check_any n a cap L _ (hL.below hB0))
  have hok := Ch.check_ok (n := n) (L := L)
  unfold Ch.clashE at hR
  obtain ⟨ec, hec⟩ : ∃ ec, (Ch.check n L).1 = ec := ⟨_, rfl⟩
  obtain ⟨at1, hat⟩ : ∃ at1, (Ch.check n L).2 = at1 := ⟨_, rfl⟩
  rw [hec, hat] at HC
  rw [hec] at hR hok hE
  clear hec hat
  replace hR := Lib.hid hR
  replace hok := Lib.hid hok
  replace hE := Lib.hid hE
  unfold sysV at *
  go_enter Tryz.func22, Tryz.ntmps22
  go_wp2_with fail
  refine HC.out.mono ?_
  rintro e w1 ⟨rfl, hb1⟩
  have k0 : w1.cell? ⟨w.heap.size, 0, none⟩ = some (.int .i64 n) := kept1 (by simp [go_sem]) hb1
  have k1 : w1.cell? ⟨w.heap.size, 1, none⟩ = some (.slice a L.length cap) := kept1 (by simp [go_sem]) hb1
  have hB1 := bstep1 (Below.refl _ _) hb1
  clear HC hb1 hB0
  by_cases h0 : ec = 0
  · subst h0
    have h := hR.out
    rw [if_neg (by simp)] at h
    obtain ⟨n1, n2, hm3, hokk⟩ := hok.out rfl
    have hE2 := hE.out rfl
    obtain ⟨N, rfl⟩ : ∃ N : Nat, n = (N : Int) := ⟨n.toNat, by omega⟩
    simp only [Int.toNat_natCast] at h hE2
    obtain ⟨R, hR2, hR3⟩ := Ch.enough_levels hE2
    rw [← hR3] at h
    have HN := Lib.hid (newGraph_any N (by omega) a cap L _ (Lib.hid rfl) hm3 (Lib.hid hokk) w1 (Lib.hid (hL.below hB1)))
    unfold sysV at HN
    replace h := Lib.hid h
    replace hokk := Lib.hid hokk
    clear hR hok hE hE2 hR3
    go_wp2_with fail
    refine HN.out.mono ?_
    rintro e w2 ⟨gb, ib, db, V, rfl, h1, h2, h3, h4, h5, h6, h7⟩
    have G := Lib.hid (gr_of_ng (w := w1) rfl hm3 hokk.out h1 h2 h3 ((hL.below hB1).below h7))
    have hB2 := hB1.trans (h7.mono hB1.size)
    have HK := Lib.hid (consistent_any N gb (by omega) (by omega) L [] k R (Lib.hid hR2) _ ib db _ a cap V w2 G)
    clear HN h1 h2 h3 h4 h5 h6 h7 hR2
    go_wp2_with fail
    refine HK.out.mono ?_
    rintro e w3 ⟨rfl, hb3⟩
    have G3 := Lib.hid (G.out.below hb3)
    have hB3 := hB2.trans (hb3.mono hB2.size)
    clear HK hb3 G
    cases R with
    | some s =>
      have h9 := h.out
      simp only [Option.isSome, if_true] at h9
      obtain ⟨rfl, rfl⟩ := Prod.mk.inj (Option.some.inj h9)
      clear h h9
      go_wp2
      go_ret2
      exact ⟨_, rfl, World.ownsRow_nil _ _ _ _, hB3⟩
    | none =>
      have h9 := h.out
      simp only [Option.isSome] at h9
      rw [if_neg (by simp)] at h9
      obtain ⟨hcl, rfl⟩ : Ch.clash N L [] = some (some l) ∧ er = 0 := by
        cases e : Ch.clash N L [] with
        | none => rw [e] at h9; cases h9
        | some q =>
          rw [e] at h9
          cases q with
          | none => cases h9
          | some l' =>
            obtain ⟨rfl, rfl⟩ := Prod.mk.inj (Option.some.inj h9)
            exact ⟨rfl, rfl⟩
      have HX := Lib.hid (clash_any N gb (by omega) (by omega) L [] _ ib db _ a cap V l (Lib.hid hcl) w3 G3)
      have hsz := hB3.size
      clear h h9 hcl
      go_wp2_with fail
      refine HX.out.mono ?_
      rintro e w4 ⟨v, rfl, hown, hb4⟩
      have hB4 := hB3.trans (hb4.mono hB3.size)
      replace hown := Lib.hid hown
      clear HX hb4
      go_wp2
      go_ret2
      exact ⟨_, rfl, owns_base hown.out hsz, hB4⟩
  · have h := hR.out
    rw [if_pos h0] at h
    obtain ⟨rfl, rfl⟩ := Prod.mk.inj (Option.some.inj h)
    clear h hR
    go_wp2
    go_ret2
    exact ⟨_, rfl, World.ownsRow_nil _ _ _ _, hB1⟩
end Go.Proofs.YtemacokojdeimaaGreatDoor

/- Contracts of package chain: turned. -/
namespace Go.Proofs.YtemacokojdeimaaGreatDoor
open Go.RowKit

theorem infoLk : (Tryz.prog.info? 54).map (fun i => (i.zero, i.size, i.bytes)) = some (some (.agg #[.int .i64 0, .int .i64 0, .int .i64 0]), 3, 24) := by kernel_rfl

/-- make of wide elements -/
theorem run_make_wide {P : Program} (t e : TypeId) (z : Value) (size bytes : Nat) (cs : Array Value) (ht : P.underlying t = some (.slice e)) (hinfo : (P.info? e).map (fun i => (i.zero, i.size, i.bytes)) = some (some z, size, bytes)) (hcs : z.cells = cs)
    (kl kc : IntKind) (n : Nat) (hbytes : bytes * n ≤ 281474976710656) (h63 : n ≤ 9223372036854775807) (w : World) :
    (Instr.makeSlice t (.int kl (n : Int)) (.int kc (n : Int))).run P w = .ok (.slice (some ⟨w.heap.size, 0, none⟩) n n) (w.alloc (.cells (madeCells cs (n * size)) e)) := by
  obtain ⟨i, hi, hz, hs, hb⟩ := info_parts hinfo
  have hb' : (i.bytes : Int) * (n : Int) ≤ 281474976710656 := by
    have h : ((i.bytes * n : Nat) : Int) ≤ 281474976710656 := by rw [hb]; omega
    rwa [Int.natCast_mul] at h
  have hr := run_make (P := P) w t e i z ht hi hz kl kc n n (by omega) (Int.le_refl _) hb' (by omega)
  simp only [Int.toNat_natCast, hs, hcs] at hr
  exact hr
theorem rowIs_wide (w : World) (cs : Array Value) (n : Nat) (t : TypeId) : (w.alloc (.cells (madeCells cs n) t)).rowIs w.heap.size t n (fun i => cs[i % cs.size]!) := by
  have h := World.rowIs_alloc w (madeCells cs n) t (fun i => cs[i % cs.size]!) (fun i hi => by
    rw [size_madeCells] at hi
    unfold madeCells
    rw [Array.getElem?_map, Array.getElem?_range, if_pos hi]
    rfl)
  rw [size_madeCells] at h
  exact h
theorem rowIs_zeros (w : World) (n : Nat) (t : TypeId) : (w.alloc (.cells (madeCells #[.int .i64 0, .int .i64 0, .int .i64 0] n) t)).rowIs w.heap.size t n (fun _ => .int .i64 0) := by
  refine (rowIs_wide w _ n t).congr (fun i _ => ?_)
  have h : i % 3 < 3 := Nat.mod_lt _ (by decide)
  show #[Value.int .i64 0, .int .i64 0, .int .i64 0][i % 3]! = _
  revert h
  generalize i % 3 = j
  intro h
  match j, h with
  | 0, _ => rfl
  | 1, _ => rfl
  | 2, _ => rfl

/-- a link's numbers, the ends exchanged -/
def fldT (l : Ch.Lk) (j : Nat) : Int := if j = 0 then l.t else if j = 1 then l.f else l.m
/-- the links of which the first k are laid, turned round -/
def tuF (L : List Ch.Lk) (k : Nat) : Nat → Value := fun i => .int .i64 (if i / 3 < k then fldT (L.getD (i / 3) Ch.noLk) (i % 3) else 0)

/-- what turned lays -/
structure TL (w X : World) (bb tb : Nat) (n : Int) (m : Nat) (L : List Ch.Lk) (k : Nat) : Prop where
  s : X.rowIs bb 24 2 (fun i => if i = 0 then .int .i64 n else .slice (some ⟨tb, 0, none⟩) m m)
  t : X.rowIs tb 54 (m * 3) (tuF L k)
  b : Below w.heap.size w X
  ne : bb ≠ tb
  s0 : w.heap.size ≤ bb
  t0 : w.heap.size ≤ tb
theorem tuF_zero (L : List Ch.Lk) : tuF L 0 = fun _ => .int .i64 0 := by
  funext i; unfold tuF; rw [if_neg (by omega)]

theorem TL.alloc {w X : World} {bb tb : Nat} {n : Int} {m : Nat} {L : List Ch.Lk} {k : Nat} (h : TL w X bb tb n m L k) (o : Obj) : TL w (X.alloc o) bb tb n m L k := ⟨h.s.alloc o, h.t.alloc o, h.b.alloc h.b.size o, h.ne, h.s0, h.t0⟩
theorem sysRow {X : World} {n : Int} {p : Option Addr} {m : Nat} : (X.alloc (Obj.cells #[.int .i64 n, .slice p m m] 24)).rowIs X.heap.size 24 2 (fun i => if i = 0 then .int .i64 n else .slice p m m) :=
  World.rowIs_alloc X _ _ _ (fun i hi => by
    match i, hi with
    | 0, _ => rfl
    | 1, _ => rfl)
theorem tl_1 {w X : World} {n : Int} {m : Nat} {L : List Ch.Lk} (h : Below w.heap.size w X) : TL w ((X.alloc (Obj.cells (madeCells #[.int .i64 0, .int .i64 0, .int .i64 0] (m * 3)) 54)).alloc (Obj.cells #[.int .i64 n, .slice (some ⟨X.heap.size, 0, none⟩) m m] 24)).drew (X.heap.size + 1) X.heap.size n m L 0 := by
  have hz := h.size
  refine ⟨?_, by rw [tuF_zero]; exact ((rowIs_zeros X _ _).alloc _).drew, ((h.alloc hz _).alloc (by simp; omega) _).drew, by omega, by omega, hz⟩
  have e : (X.alloc (Obj.cells (madeCells #[.int .i64 0, .int .i64 0, .int .i64 0] (m * 3)) 54)).heap.size = X.heap.size + 1 := by simp
  rw [← e]
  exact sysRow.drew
theorem tl_2 {w X : World} {n : Int} {m : Nat} {L : List Ch.Lk} (h : Below w.heap.size w X) : TL w ((X.alloc (Obj.cells #[.int .i64 n, .slice (some ⟨X.heap.size + 1, 0, none⟩) m m] 24)).alloc (Obj.cells (madeCells #[.int .i64 0, .int .i64 0, .int .i64 0] (m * 3)) 54)).drew X.heap.size (X.heap.size + 1) n m L 0 := by
  have hz := h.size
  refine ⟨(sysRow.alloc _).drew, ?_, ((h.alloc hz _).alloc (by simp; omega) _).drew, by omega, hz, by omega⟩
  have e : (X.alloc (Obj.cells #[.int .i64 n, .slice (some ⟨X.heap.size + 1, 0, none⟩) m m] 24)).heap.size = X.heap.size + 1 := by simp
  have h1 := rowIs_zeros (X.alloc (Obj.cells #[.int .i64 n, .slice (some ⟨X.heap.size + 1, 0, none⟩) m m] 24)) (m * 3) 54
  rw [e] at h1
  rw [tuF_zero]
  exact h1.drew

theorem tu_row {X : World} {tb m k : Nat} {L : List Ch.Lk} {f t mo : Int} (h : X.rowIs tb 54 (m * 3) (tuF L k)) (hlk : L.getD k Ch.noLk = ⟨f, t, mo⟩) :
    (((X.setCell ⟨tb, k * 3, none⟩ (.int .i64 t)).setCell ⟨tb, k * 3 + 1, none⟩ (.int .i64 f)).setCell ⟨tb, k * 3 + 2, none⟩ (.int .i64 mo)).rowIs tb 54 (m * 3) (tuF L (k + 1)) := by
  refine (((h.set (k * 3) _).set (k * 3 + 1) _).set (k * 3 + 2) _).congr (fun i hi => ?_)
  unfold tuF
  by_cases e2 : i = k * 3 + 2
  · subst e2
    rw [if_pos rfl, show (k * 3 + 2) / 3 = k by omega, show (k * 3 + 2) % 3 = 2 by omega, hlk, if_pos (by omega)]; rfl
  rw [if_neg e2]
  by_cases e1 : i = k * 3 + 1
  · subst e1
    rw [if_pos rfl, show (k * 3 + 1) / 3 = k by omega, show (k * 3 + 1) % 3 = 1 by omega, hlk, if_pos (by omega)]; rfl
  rw [if_neg e1]
  by_cases e0 : i = k * 3
  · subst e0
    rw [if_pos rfl, show (k * 3) / 3 = k by omega, show (k * 3) % 3 = 0 by omega, hlk, if_pos (by omega)]; rfl
  rw [if_neg e0]
  by_cases e : i / 3 < k
  · rw [if_pos e, if_pos (by omega)]
  · rw [if_neg e, if_neg (by omega)]
theorem TL.step {w X : World} {bb tb : Nat} {n : Int} {m : Nat} {L : List Ch.Lk} {k : Nat} {f t mo : Int} (h : TL w X bb tb n m L k) (hlk : L.getD k Ch.noLk = ⟨f, t, mo⟩) :
    TL w (((X.setCell ⟨tb, k * 3, none⟩ (.int .i64 t)).setCell ⟨tb, k * 3 + 1, none⟩ (.int .i64 f)).setCell ⟨tb, k * 3 + 2, none⟩ (.int .i64 mo)) bb tb n m L (k + 1) :=
  ⟨((h.s.setOther (a := ⟨tb, k * 3, none⟩) h.ne _).setOther (a := ⟨tb, k * 3 + 1, none⟩) h.ne _).setOther (a := ⟨tb, k * 3 + 2, none⟩) h.ne _, tu_row h.t hlk, ((h.b.setCell h.t0 _).setCell h.t0 _).setCell h.t0 _, h.ne, h.s0, h.t0⟩
theorem turned_get {L : List Ch.Lk} {j : Nat} (hj : j < L.length) : (Ch.turned L).getD j Ch.noLk = ⟨(L.getD j Ch.noLk).t, (L.getD j Ch.noLk).f, (L.getD j Ch.noLk).m⟩ := by
  unfold Ch.turned
  rw [List.getD, List.getD, List.getElem?_map, List.getElem?_eq_getElem hj]; rfl
theorem tu_lks {X : World} {tb m : Nat} {L : List Ch.Lk} (hm : L.length = m) (h : X.rowIs tb 54 (m * 3) (tuF L m)) : LksAt X (some ⟨tb, 0, none⟩) (Ch.turned L) := by
  intro j hj
  have hj2 : j < L.length := by simpa [Ch.turned] using hj
  refine ⟨_, rfl, ?_⟩
  have e : (⟨tb, 0, none⟩ : Addr).add (j * 3) = ⟨tb, j * 3, none⟩ := by unfold Addr.add; split <;> simp_all
  rw [e, turned_get hj2]
  refine ⟨?_, ?_, ?_⟩
  · rw [h.cell (i := j * 3) (by omega)]; unfold tuF; rw [show (j * 3) / 3 = j by omega, show (j * 3) % 3 = 0 by omega, if_pos (by omega)]; rfl
  · show X.cell? ⟨tb, j * 3 + 1, none⟩ = _
    rw [h.cell (i := j * 3 + 1) (by omega)]; unfold tuF; rw [show (j * 3 + 1) / 3 = j by omega, show (j * 3 + 1) % 3 = 1 by omega, if_pos (by omega)]; rfl
  · show X.cell? ⟨tb, j * 3 + 2, none⟩ = _
    rw [h.cell (i := j * 3 + 2) (by omega)]; unfold tuF; rw [show (j * 3 + 2) / 3 = j by omega, show (j * 3 + 2) % 3 = 2 by omega, if_pos (by omega)]; rfl

/-- what turned leaves -/
def TuPost (w : World) (n : Int) (m : Nat) (L : List Ch.Lk) (e : Ending) (w' : World) : Prop :=
  ∃ tb, w.heap.size ≤ tb ∧ e = .returned (sysV n (some ⟨tb, 0, none⟩) m m) ∧ LksAt w' (some ⟨tb, 0, none⟩) (Ch.turned L) ∧ Below w.heap.size w w'

set_option maxRecDepth 100000 in
set_option maxHeartbeats 2000000 in
theorem turned_any (n : Int) (a : Option Addr) (cap : Nat) (L : List Ch.Lk) (m : Nat) (hm : Hid (L.length = m)) (hm3 : m ≤ 300) (w : World) (hL : Hid (LksAt w a L)) :
    Calls Tryz.prog 64 #[sysV n a m cap] w (TuPost w n m L) := by
  have hmk := run_make_wide (P := Tryz.prog) 22 54 _ 3 24 #[.int .i64 0, .int .i64 0, .int .i64 0] Tryz.underlying22 infoLk rfl .i64 .i64 m (by omega) (by omega)
  unfold sysV
  go_enter Tryz.func64, Tryz.ntmps64
  go_upto_region 1 with fail
  have c0 : ((w.alloc (Obj.cells #[.int .i64 n, .slice a m cap] 24)).alloc (Obj.cells #[.int .i64 0, .slice none 0 0] 24)).cell? ⟨w.heap.size, 0, none⟩ = some (.int .i64 n) := by simp [go_sem]
  have c1 : ((w.alloc (Obj.cells #[.int .i64 n, .slice a m cap] 24)).alloc (Obj.cells #[.int .i64 0, .slice none 0 0] 24)).cell? ⟨w.heap.size, 1, none⟩ = some (.slice a m cap) := by simp [go_sem]
  have bX : Below w.heap.size w ((w.alloc (Obj.cells #[.int .i64 n, .slice a m cap] 24)).alloc (Obj.cells #[.int .i64 0, .slice none 0 0] 24)) := below_alloc (below_alloc (Below.refl _ _) _) _
  have rX : ((w.alloc (Obj.cells #[.int .i64 n, .slice a m cap] 24)).alloc (Obj.cells #[.int .i64 0, .slice none 0 0] 24)).rowIs (w.heap.size + 1) 24 2 (fun i => if i = 0 then .int .i64 0 else .slice none 0 0) := by
    have h := sysRow (X := w.alloc (Obj.cells #[.int .i64 n, .slice a m cap] 24)) (n := 0) (p := none) (m := 0)
    simpa using h
  replace rX := Lib.hid rX
  generalize (w.alloc (Obj.cells #[.int .i64 n, .slice a m cap] 24)).alloc (Obj.cells #[.int .i64 0, .slice none 0 0] 24) = X at *
  go_cut [3] from 6 to 12 (fun s3 wx => ∃ bb tb, s3 = .pointer (some ⟨bb, 0, none⟩) ∧ Hid (TL X wx bb tb n m L 0))
  case first =>
    have S0 : X.drew.cell? ⟨w.heap.size, 0, none⟩ = some (.int .i64 n) ∧ X.drew.cell? ⟨w.heap.size, 1, none⟩ = some (.slice a m cap) ∧ Below X.heap.size X X.drew := ⟨c0, c1, (Below.refl _ _).drew⟩
    have S1 : X.cell? ⟨w.heap.size, 0, none⟩ = some (.int .i64 n) ∧ X.cell? ⟨w.heap.size, 1, none⟩ = some (.slice a m cap) ∧ Below X.heap.size X X := ⟨c0, c1, Below.refl _ _⟩
    have T1 := Lib.hid (tl_1 (n := n) (m := m) (L := L) (Below.refl X.heap.size X))
    have T2 := Lib.hid (tl_2 (n := n) (m := m) (L := L) (Below.refl X.heap.size X))
    clear bX
    go_region_held3 (fun w' => w'.cell? ⟨w.heap.size, 0, none⟩ = some (.int .i64 n) ∧ w'.cell? ⟨w.heap.size, 1, none⟩ = some (.slice a m cap) ∧ Below X.heap.size X w')
      (first | with_reducible exact S0 | with_reducible exact keep2 (by assumption) ((Below.refl _ _).alloc (Nat.le_refl _) _) | exact keep2 S1 (by repeat (first | with_reducible exact Below.refl _ _ | with_reducible assumption | refine below_drewN ?_ _ | refine Below.drew ?_ | refine Below.alloc ?_ (by first | (simp; done) | (simp; omega) | omega) _ | refine Below.setCell ?_ (by first | (simp; done) | (simp; omega) | omega) _ | refine Below.trans ?_ (Below.mono (by assumption) (by first | (simp; done) | (simp; omega) | omega))))) (fail)
    all_goals go_wp2_with fail
    all_goals go_meet
    · exact ⟨_, _, rfl, T1⟩
    · exact ⟨_, _, rfl, T2⟩
  case rest =>
    generalize wc = Y at hcut ⊢
    clear wc hmk
    obtain ⟨bb, tb, rfl, HT⟩ := hcut
    have kc1 := kept1 c1 HT.out.b
    clear c0 c1
    go_wp2
    go_loopw [16] (fun i wr => ∃ k : Nat, k ≤ m ∧ i = .int .i64 k ∧ Hid (TL X wr bb tb n m L k)) (fun i _ => m - (RowKit.intOf i).toNat)
    case atStart => exact ⟨0, Nat.zero_le _, rfl, HT⟩
    case round =>
      clear HT
      obtain ⟨k, hk, rfl, HT⟩ := hrel
      by_cases hlt : k < m
      · obtain ⟨y, rfl, hl3⟩ := hL.out k (by have := hm.out; omega)
        have ⟨g0, g1, g2⟩ := (hl3.below bX).below (W := wr) (HT.out.b.mono (Nat.le_refl _))
        obtain ⟨f, t, mo, hlk⟩ : ∃ f t mo, L.getD k Ch.noLk = ⟨f, t, mo⟩ := ⟨_, _, _, rfl⟩
        rw [hlk] at g0 g1 g2
        simp only at g0 g1 g2
        have hi5 : (k : Int) < (m : Int) := by omega
        clear hl3
        go_upto_region 5 with fail
        have X0 : (wr.alloc (Obj.cells #[.int .i64 f, .int .i64 t, .int .i64 mo] 54)).cell? ⟨wr.heap.size, 0, none⟩ = some (.int .i64 f) := by simp [go_sem]
        have X1 : (wr.alloc (Obj.cells #[.int .i64 f, .int .i64 t, .int .i64 mo] 54)).cell? ⟨wr.heap.size, 1, none⟩ = some (.int .i64 t) := by simp [go_sem]
        have X2 : (wr.alloc (Obj.cells #[.int .i64 f, .int .i64 t, .int .i64 mo] 54)).cell? ⟨wr.heap.size, 2, none⟩ = some (.int .i64 mo) := by simp [go_sem]
        have HT1 := Lib.hid (HT.out.alloc (Obj.cells #[.int .i64 f, .int .i64 t, .int .i64 mo] 54))
        clear HT g0 g1 g2
        generalize wr.alloc (Obj.cells #[.int .i64 f, .int .i64 t, .int .i64 mo] 54) = Z at *
        generalize wr.heap.size = lb at *
        have s1 : Z.cell? ⟨bb, 1, none⟩ = some (.slice (some ⟨tb, 0, none⟩) m m) := HT1.out.s.cell (i := 1) (by omega)
        have d0 := HT1.out.t.cell (i := k * 3) (by omega)
        have d1 := HT1.out.t.cell (i := k * 3 + 1) (by omega)
        have d2 := HT1.out.t.cell (i := k * 3 + 2) (by omega)
        have z0 := HT1.out.t.frozen (k * 3)
        have z1 := HT1.out.t.frozen (k * 3 + 1)
        have z2 := HT1.out.t.frozen (k * 3 + 2)
        have HT2 := Lib.hid (HT1.out.step hlk)
        clear HT1 hlk
        go_wp2
        go_roundw
        case rel => exact ⟨k + 1, by omega, by go_num, HT2⟩
        case measure => show m - ((k : Int) + 1).toNat < m - (k : Int).toNat; omega
      · obtain rfl : k = m := by omega
        have hi5 : ¬ (k : Int) < (k : Int) := by omega
        have s0 : wr.cell? ⟨bb, 0, none⟩ = some (.int .i64 n) := HT.out.s.cell (i := 0) (by omega)
        have s1 : wr.cell? ⟨bb, 1, none⟩ = some (.slice (some ⟨tb, 0, none⟩) k k) := HT.out.s.cell (i := 1) (by omega)
        have rr := Lib.hid (rX.out.of_block (HT.out.b.block _ rX.out.lt))
        have r0 := rr.out.cell (i := 0) (by omega)
        have r1 := rr.out.cell (i := 1) (by omega)
        have rz0 := rr.out.frozen 0
        have rz1 := rr.out.frozen 1
        have rlt := rX.out.lt
        have hne : tb ≠ w.heap.size + 1 := by have := HT.out.t0; omega
        have q0 : ((wr.setCell ⟨w.heap.size + 1, 0, none⟩ (.int .i64 n)).setCell ⟨w.heap.size + 1, 1, none⟩ (.slice (some ⟨tb, 0, none⟩) k k)).cell? ⟨w.heap.size + 1, 0, none⟩ = some (.int .i64 n) := ((rr.out.set 0 _).set 1 _).cell (i := 0) (by omega)
        have q1 : ((wr.setCell ⟨w.heap.size + 1, 0, none⟩ (.int .i64 n)).setCell ⟨w.heap.size + 1, 1, none⟩ (.slice (some ⟨tb, 0, none⟩) k k)).cell? ⟨w.heap.size + 1, 1, none⟩ = some (.slice (some ⟨tb, 0, none⟩) k k) := ((rr.out.set 0 _).set 1 _).cell (i := 1) (by omega)
        have qt := Lib.hid (tu_lks hm.out ((HT.out.t.setOther (a := ⟨w.heap.size + 1, 0, none⟩) hne (.int .i64 n)).setOther (a := ⟨w.heap.size + 1, 1, none⟩) hne (.slice (some ⟨tb, 0, none⟩) k k)))
        have qb : Below w.heap.size w ((wr.setCell ⟨w.heap.size + 1, 0, none⟩ (.int .i64 n)).setCell ⟨w.heap.size + 1, 1, none⟩ (.slice (some ⟨tb, 0, none⟩) k k)) := (((bX.trans (HT.out.b.mono bX.size)).setCell (by simp) _).setCell (by simp) _)
        have ht0 : w.heap.size ≤ tb := Nat.le_trans bX.size HT.out.t0
        go_wp2
        clear r0 r1 rz0 rz1 s0 s1 rr HT
        generalize (wr.setCell ⟨w.heap.size + 1, 0, none⟩ (.int .i64 n)).setCell ⟨w.heap.size + 1, 1, none⟩ (.slice (some ⟨tb, 0, none⟩) k k) = W at *
        refine bodyPost_ret (v := (sysV n (some ⟨tb, 0, none⟩) k k)) (by simp [results, Tryz.results64, go_sem, q0, q1, sysV]) rfl ?_
        exact ⟨tb, ht0, rfl, qt.out, qb⟩
end Go.Proofs.YtemacokojdeimaaGreatDoor

/- Contracts of package chain: slices.Concat of two lists of links. -/
namespace Go.Proofs.YtemacokojdeimaaGreatDoor
open Go.RowKit

/-- the cells of links -/
def lkCells (L : List Ch.Lk) : List Value := L.flatMap fun l => [.int .i64 l.f, .int .i64 l.t, .int .i64 l.m]
theorem lkCells_len (L : List Ch.Lk) : (lkCells L).length = L.length * 3 := by
  induction L with
  | nil => rfl
  | cons l r ih => unfold lkCells at *; rw [List.flatMap_cons, List.length_append, ih]; simp; omega
theorem lkCells_append (L L2 : List Ch.Lk) : lkCells (L ++ L2) = lkCells L ++ lkCells L2 := by unfold lkCells; rw [List.flatMap_append]
theorem lkCells_get : ∀ {L : List Ch.Lk} {k : Nat}, k < L.length → (lkCells L)[k * 3]? = some (.int .i64 (L.getD k Ch.noLk).f) ∧ (lkCells L)[k * 3 + 1]? = some (.int .i64 (L.getD k Ch.noLk).t) ∧ (lkCells L)[k * 3 + 2]? = some (.int .i64 (L.getD k Ch.noLk).m)
  | [], _, h => absurd h (by simp)
  | l :: r, 0, _ => ⟨rfl, rfl, rfl⟩
  | l :: r, k + 1, h => by
    have ih := lkCells_get (L := r) (k := k) (by simpa using h)
    have e : lkCells (l :: r) = .int .i64 l.f :: .int .i64 l.t :: .int .i64 l.m :: lkCells r := rfl
    have e0 : (k + 1) * 3 = k * 3 + 1 + 1 + 1 := by omega
    rw [e, e0]
    simp only [List.getElem?_cons_succ]
    exact ⟨ih.1, ih.2.1, ih.2.2⟩
theorem add_off {x : Addr} {k j : Nat} (h : 0 < j) : x.add (k + j) = ⟨(x.add k).block, (x.add k).off + j, none⟩ := by
  unfold Addr.add
  rw [if_neg (by omega)]
  split
  · rename_i e; subst e; simp
  · simp; omega
theorem lks_cells {w : World} {x : Addr} {L : List Ch.Lk} (h : LksAt w (some x) L) (j : Nat) (u : Value) (hu : (lkCells L)[j]? = some u) : w.cell? (x.add j) = some u := by
  have hj : j < L.length * 3 := by rw [← lkCells_len]; exact (List.getElem?_eq_some_iff.1 hu).1
  obtain ⟨k, r, rfl, hr⟩ : ∃ k r, j = k * 3 + r ∧ r < 3 := ⟨j / 3, j % 3, by omega, Nat.mod_lt _ (by decide)⟩
  obtain ⟨y, hy, h1, h2, h3⟩ := h k (by omega)
  obtain rfl := Option.some.inj hy
  obtain ⟨g1, g2, g3⟩ := lkCells_get (L := L) (k := k) (by omega)
  rcases (by omega : r = 0 ∨ r = 1 ∨ r = 2) with rfl | rfl | rfl
  · rw [Nat.add_zero] at hu ⊢
    rw [g1] at hu
    rw [h1]; exact hu
  · rw [g2] at hu
    rw [add_off (by omega), h2]; exact hu
  · rw [g3] at hu
    rw [add_off (by omega), h3]; exact hu
theorem lks_of_owns {w : World} {B : Nat} {v : Value} {L : List Ch.Lk} (h : w.ownsRow B 54 3 v L.length (lkCells L)) : ∃ a cap, v = .slice a L.length cap ∧ LksAt w a L := by
  obtain ⟨_, h2⟩ := h
  rcases h2 with ⟨hv, h0⟩ | ⟨g, cap, cur, hv, hb, hg, hle, hcm, hs, ht⟩
  · exact ⟨none, 0, by rw [hv, h0], fun k hk => by omega⟩
  · refine ⟨_, cap, hv, fun k hk => ⟨_, rfl, ?_⟩⟩
    have hc : ∀ j u, (lkCells L)[j]? = some u → w.cell? ⟨g, j, none⟩ = some u := by
      intro j u hu
      have hj : j < L.length * 3 := by rw [← lkCells_len]; exact (List.getElem?_eq_some_iff.1 hu).1
      rw [← ht, List.getElem?_take_of_lt hj, Array.getElem?_toList] at hu
      simp [World.cell?, hg, hu]
    obtain ⟨g1, g2, g3⟩ := lkCells_get hk
    have e : (⟨g, 0, none⟩ : Addr).add (k * 3) = ⟨g, k * 3, none⟩ := by unfold Addr.add; split <;> simp_all
    rw [e]
    exact ⟨hc _ _ g1, hc _ _ g2, hc _ _ g3⟩
theorem lk_one (L : List Ch.Lk) : ∀ u ∈ lkCells L, u.oneCell' = true := by
  intro u hu
  unfold lkCells at hu
  obtain ⟨l, _, h⟩ := List.mem_flatMap.1 hu
  simp at h
  rcases h with rfl | rfl | rfl <;> rfl

theorem owns_new0 (w : World) (e : TypeId) (size cap : Nat) (cs : Array Value) (h : cs.size = cap * size) (hc : cap ≤ maxLen) : (w.alloc (.cells cs e)).ownsRow w.heap.size e size (.slice (some ⟨w.heap.size, 0, none⟩) 0 cap) 0 [] :=
  ⟨by simp, .inr ⟨w.heap.size, cap, cs, rfl, Nat.le_refl _, World.alloc_heap_new w _, Nat.zero_le _, hc, h, by simp⟩⟩
/-- Grow of nothing -/
theorem grow_any (n : Nat) (hn : n ≤ 100000) (w : World) :
    Calls Tryz.prog 66 #[.slice none 0 0, .int .i64 (n : Int)] w fun e w' => ∃ v, e = .returned v ∧ w'.ownsRow w.heap.size 54 3 v 0 [] ∧ Below w.heap.size w w' := by
  obtain ⟨i0, hi, hz0, hz1, hz2⟩ := info_parts infoLk
  by_cases h0 : n = 0
  · subst h0
    refine (Any8.slices_Grow_room Tryz.grow66 none 0 0 0 w (Nat.le_refl _) (by omega) (by omega) (Nat.le_refl _)).mono ?_
    rintro e w' ⟨rfl, rfl⟩
    exact ⟨_, rfl, World.ownsRow_nil _ _ _ _, Below.refl _ _⟩
  · refine (Any8.slices_Grow_grow Tryz.grow66 i0 _ hi hz0 (by rw [hz1]; decide) none 0 0 n [] w (Nat.le_refl _) (by omega) (by rw [hz2]; omega) (by omega) (by simp) (fun _ => rfl) (fun a h => by cases h)).mono ?_
    rintro e w' ⟨rfl, rfl⟩
    refine ⟨_, rfl, owns_new0 w.drew _ _ _ _ ?_ (grownCap_le_maxLen _ _ _ _ (by unfold maxLen; omega)), ((Below.refl _ _).drew).alloc (Nat.le_refl _) _⟩
    · have hge := grownCap_ge w (0 + n) 0 54
      have e3 : (Value.agg #[.int .i64 0, .int .i64 0, .int .i64 0]).cells.size = 3 := rfl
      show (_ ++ _ ++ _ : Array Value).size = _
      rw [Array.size_append, Array.size_append, size_zeroCells, size_zeroCells, e3]
      show 0 + _ + (grownCap w (0 + n) 0 54 - (0 + n)) * 3 = grownCap w (0 + n) 0 54 * 3
      omega
end Go.Proofs.YtemacokojdeimaaGreatDoor

/- Contracts of package chain: slices.Concat of two lists of links, With. -/
namespace Go.Proofs.YtemacokojdeimaaGreatDoor
open Go.RowKit

theorem grownBy_refl (w : World) (r : Option Nat) : w.grownBy w r := ⟨rfl, rfl, rfl, Nat.le_refl _, fun _ _ _ => rfl⟩

/-- append of links that lie in a row, to links of one's own -/
theorem wpList_append_lks {w : World} {ops : Array Oper} {rest : List Oper} {o : Oper} {a : Act} {Q : Exit → Act → World → Prop} (hgd : o.guard = none) (s x : Operand)
    (ho : o.op = .call { callee := .builtin .append, args := #[s, x], argTypes := #[22, 22] })
    (base : Nat) (v : Value) (n : Nat) (pre : List Ch.Lk) (hs : a.eval s = v) (hown : w.ownsRow base 54 3 v n (lkCells pre))
    (b : Option Addr) (m cap : Nat) (L : List Ch.Lk) (hm : L.length = m) (hx : a.eval x = .slice b m cap) (hL : LksAt w b L) (hb : b = none → cap = 0)
    (h9 : n + m ≤ 100000) (hbase : base ≤ w.heap.size)
    (h : ∀ v' w', w'.ownsRow base 54 3 v' (n + m) (lkCells (pre ++ L)) → w.grownBy w' v.ownBlock → wpList Tryz.prog ops Q rest (a.put o.dst v') w') : wpList Tryz.prog ops Q (o :: rest) a w := by
  obtain ⟨i0, hi, hz0, hz1, hz2⟩ := info_parts infoLk
  subst hm
  cases b with
  | none =>
    have h0 := hb rfl
    subst h0
    have hl : L = [] := by
      cases L with
      | nil => rfl
      | cons l r =>
        obtain ⟨x, hx, _⟩ := hL 0 (by simp)
        cases hx
    subst hl
    refine wpList_append_own_none hgd s x 22 ho base 54 i0 3 Tryz.underlying22 hi v n _ hs hown hx ?_
    refine h v w ?_ (grownBy_refl _ _)
    rw [List.append_nil]
    exact hown
  | some ad =>
    refine wpList_append_own _ hgd s x 22 ho base 54 i0 _ 3 24 Tryz.underlying22 hi hz0 hz1 hz2 rfl (by decide) v n _ hs hown ad L.length cap (lkCells L) hx (lkCells_len L) (fun j u hu => lks_cells hL j u hu) (lk_one L) ?_ ?_ hbase ?_
    · unfold maxLen; omega
    · omega
    · intro v' w' h1 h2 _
      rw [← lkCells_append] at h1
      exact h v' w' h1 h2

theorem below_grown {w0 w w' : World} {v : Value} {e : TypeId} {size n : Nat} {xs : List Value} (hb : Below w0.heap.size w0 w) (ho : w.ownsRow w0.heap.size e size v n xs) (hg : w.grownBy w' v.ownBlock) : Below w0.heap.size w0 w' :=
  ⟨hg.os.trans hb.os, hg.tape.trans hb.tape, hg.output.trans hb.output, Nat.le_trans hb.size hg.size, fun k hk => (hg.block k (Nat.lt_of_lt_of_le hk hb.size) (fun e1 => by have := owns_far ho e1.symm; omega)).trans (hb.block k hk)⟩

/-- a row of links of one's own, and nothing else -/
structure CcS (w W : World) (v : Value) (pre : List Ch.Lk) : Prop where
  o : W.ownsRow w.heap.size 54 3 v pre.length (lkCells pre)
  b : Below w.heap.size w W

set_option maxRecDepth 100000 in
set_option maxHeartbeats 4000000 in
theorem concat_any (ab : Nat) (a b : Option Addr) (m q cap cap2 : Nat) (hm9 : m ≤ 1000) (hq9 : q ≤ 1000) (L L2 : List Ch.Lk) (hm : Hid (L.length = m)) (hq : Hid (L2.length = q)) (ha : Hid (a = none → cap = 0)) (hb : Hid (b = none → cap2 = 0)) (w : World) (hL : Hid (LksAt w a L)) (hL2 : Hid (LksAt w b L2)) (c0 : w.cell? ⟨ab, 0, none⟩ = some (.slice a m cap)) (c1 : w.cell? ⟨ab, 1, none⟩ = some (.slice b q cap2)) :
    Calls Tryz.prog 41 #[.slice (some ⟨ab, 0, none⟩) 2 2] w fun e w' => ∃ v, e = .returned v ∧ w'.ownsRow w.heap.size 54 3 v (m + q) (lkCells (L ++ L2)) ∧ Below w.heap.size w w' := by
  have HG := Lib.hid (grow_any (m + q) (by omega) w)
  go_enter Tryz.func41, Tryz.ntmps41
  go_wp2
  go_loopw [11, 3] (fun i s wr => ∃ k : Nat, k ≤ 2 ∧ i = .int .i64 k ∧ s = .int .i64 ((if k = 0 then 0 else if k = 1 then m else m + q : Nat) : Int) ∧ w = wr) (fun i _ _ => 2 - (RowKit.intOf i).toNat)
  case atStart => exact ⟨0, by omega, rfl, rfl, rfl⟩
  case round =>
    obtain ⟨k, hk, rfl, rfl, rfl⟩ := hrel
    rcases (by omega : k = 0 ∨ k = 1 ∨ k = 2) with rfl | rfl | rfl
    · go_wp2
      go_roundw
      case rel => exact ⟨1, by omega, by go_num, by first | rfl | go_num, by first | rfl | trivial⟩
      case measure => decide
    · go_wp2
      go_roundw
      case rel => exact ⟨2, by omega, by go_num, by first | rfl | go_num, by first | rfl | trivial⟩
      case measure => decide
    · go_wp2_with fail
      refine HG.out.mono ?_
      rintro e w1 ⟨v, rfl, hown, hb1⟩
      have hS := Lib.hid (CcS.mk (pre := []) hown hb1)
      have d0 := kept1 c0 hb1
      have d1 := kept1 c1 hb1
      have hL' := Lib.hid (hL.out.below hb1)
      have hL2' := Lib.hid (hL2.out.below hb1)
      clear HG hown hb1
      go_wp2
      go_loopw [27, 6] (fun i v W => ∃ k : Nat, k ≤ 2 ∧ i = .int .i64 k ∧ Hid (CcS w W v (if k = 0 then [] else if k = 1 then L else L ++ L2))) (fun i _ _ => 2 - (RowKit.intOf i).toNat)
      case atStart => exact ⟨0, by omega, rfl, hS⟩
      case round =>
        clear hS d0 d1 hL' hL2'
        obtain ⟨k, hk, rfl, hS⟩ := hrel
        have e0 := kept1 c0 hS.out.b
        have e1 := kept1 c1 hS.out.b
        have hLw := Lib.hid (hL.out.below hS.out.b)
        have hL2w := Lib.hid (hL2.out.below hS.out.b)
        rcases (by omega : k = 0 ∨ k = 1 ∨ k = 2) with rfl | rfl | rfl
        · simp only [if_true] at hS
          go_wp2_with (first
            | (refine wpList_append_lks rfl (.tmp 31) (.tmp 32) rfl w.heap.size _ _ [] rfl hS.out.o a m cap L hm.out rfl hLw.out ha.out ?c1 ?c2 ?_) | fail)
          case c1 => simp; omega
          case c2 => exact hS.out.b.size
          intro v' w2 h1 h2
          have hS2 := Lib.hid (CcS.mk (pre := L) (by have := hm.out; subst this; simpa using h1) (below_grown hS.out.b hS.out.o h2))
          clear h1 h2 hS
          go_wp2
          go_roundw
          case rel => exact ⟨1, by omega, by go_num, hS2⟩
          case measure => decide
        · simp only [Nat.one_ne_zero, if_false, if_true] at hS
          go_wp2_with (first
            | (refine wpList_append_lks rfl (.tmp 31) (.tmp 32) rfl w.heap.size _ _ L rfl hS.out.o b q cap2 L2 hq.out rfl hL2w.out hb.out ?c1 ?c2 ?_) | fail)
          case c1 => have := hm.out; omega
          case c2 => exact hS.out.b.size
          intro v' w2 h1 h2
          have hS2 := Lib.hid (CcS.mk (pre := L ++ L2) (by have := hq.out; subst this; rw [List.length_append]; exact h1) (below_grown hS.out.b hS.out.o h2))
          clear h1 h2 hS
          go_wp2
          go_roundw
          case rel => exact ⟨2, by omega, by go_num, hS2⟩
          case measure => decide
        · have hS3 : CcS w wr _ (L ++ L2) := hS.out
          have h9 := hS3.o
          rw [List.length_append, hm.out, hq.out] at h9
          have hb9 := hS3.b
          replace h9 := Lib.hid h9
          clear hS hS3 e0 e1
          go_wp2
          go_ret
          exact ⟨_, rfl, h9.out, hb9⟩
end Go.Proofs.YtemacokojdeimaaGreatDoor

/- Contracts of package chain: slices.Values, AppendSeq, Collect, Sorted of numbers. -/
namespace Go.Proofs.YtemacokojdeimaaGreatDoor
open Go.RowKit
attribute [local go_sem] Oper.semAt_some

def iV (z : Int) : Value := .int .i64 z

theorem values_any (a : Option Addr) (m cap : Nat) (w : World) :
    Calls Tryz.prog 46 #[.slice a m cap] w fun e w' => e = .returned (.func (.func 71) #[] #[.pointer (some ⟨w.heap.size, 0, none⟩)]) ∧ w' = w.alloc (.cells #[.slice a m cap] 41) := by
  have hmf : ∀ (fn : Fn) (first cap : Array Value) (w : World), (Instr.makeFunc fn first cap).run Tryz.prog w = .ok (.func fn first cap) w := fun _ _ _ _ => rfl
  go_enter Tryz.func46, Tryz.ntmps46
  go_wp2
  go_ret
  exact ⟨rfl, rfl⟩

/-- what the iterator reads -/
structure VK (vb m cap : Nat) (a : Option Addr) (l : List Int) (W : World) : Prop where
  c : W.cell? ⟨vb, 0, none⟩ = some (.slice a m cap)
  l : IntsAt W a l

set_option maxRecDepth 100000 in
set_option maxHeartbeats 2000000 in
theorem values1_in (q : Nat) (hq : 2 ≤ q) (ld vb m cap : Nat) (a : Option Addr) (l : List Int) (hm : Hid (l.length = m)) (hm9 : m ≤ 100000) (J Jx : List Int → World → Prop)
    (hK : ∀ pre W, J pre W → VK vb m cap a l W)
    (hY : ∀ pre x W, J pre W → pre ++ [x] <+: l → YieldAt Fence.wide (q - 1) Tryz.prog ld #[iV x] W fun e W' =>
      (e = .returned (.bool true) ∧ J (pre ++ [x]) W' ∧ KeepsWalks W W') ∨ (e = .returned (.bool false) ∧ Jx (pre ++ [x]) W'))
    (W : World) (_hA : AbidesFrom W.heap.size J) (h0 : J [] W) :
    CallsIn Fence.wide q Tryz.prog 71 #[.func (.yield ld) #[] #[], .pointer (some ⟨vb, 0, none⟩)] W fun e W' => (∃ v, e = .returned v) ∧ (J l W' ∨ ∃ pre, pre <+: l ∧ Jx pre W') := by
  have hn1 : 1 ≤ q := by omega
  obtain ⟨e2, _⟩ := hK _ _ h0
  refine callsIn_of_wp Tryz.func71 rfl trivial ?_ rfl
  simp only [Tryz.ntmps71, List.size_toArray, List.length_cons, List.length_nil, Nat.reduceAdd, Nat.reduceSub, Array.replicate_succ, Array.replicate_zero, List.push_toArray, List.append_toArray, List.nil_append, List.cons_append]
  gi_wp2
  gi_loopw [7] (fun i wr => ∃ k : Nat, k ≤ m ∧ i = .int .i64 (k : Int) ∧ J (l.take k) wr) (fun i _ => m - (RowKit.intOf i).toNat)
  case atStart => exact ⟨0, Nat.zero_le _, rfl, h0⟩
  case round =>
    obtain ⟨k, hk, rfl, hJs⟩ := hrel
    clear e2
    by_cases hlt : k < m
    · obtain ⟨e2, hl⟩ := hK _ _ hJs
      have hkl : k < l.length := by have := hm.out; omega
      obtain ⟨y, rfl, hx⟩ := hl k hkl
      have hnx : l.take (k + 1) = l.take k ++ [l.getD k 0] := by
        rw [List.take_succ_eq_append_getElem hkl]
        congr 2
        rw [List.getD, List.getElem?_eq_getElem hkl]; rfl
      have hp2 : l.take k ++ [l.getD k 0] <+: l := by rw [← hnx]; exact List.take_prefix _ _
      obtain ⟨z, hz⟩ : ∃ z, l.getD k 0 = z := ⟨_, rfl⟩
      rw [hz] at hx hnx hp2
      obtain ⟨fn, tmps, assign, body, hy, hR⟩ := hY _ _ wr hJs hp2
      simp only [iV] at hy
      have hi5 : (k : Int) < (m : Int) := by omega
      have hi6 : (0 : Int) ≤ (k : Int) := by omega
      replace hnx := Lib.hid hnx
      replace hp2 := Lib.hid hp2
      clear hl hY hz h0 _hA hK
      gi_wp2
      refine hR.mono ?_
      rintro e W3 (⟨rfl, hJ3, hk3⟩ | ⟨rfl, hJx3⟩)
      · gi_wp2
        go_roundw
        case rel => exact ⟨k + 1, by omega, by go_num, by rw [hnx.out]; exact hJ3⟩
        case measure => show m - ((k : Int) + 1).toNat < m - (k : Int).toNat; omega
      · gi_wp2
        refine bodyPost_ret (results_none rfl _ _ _) rfl ?_
        exact ⟨⟨_, rfl⟩, .inr ⟨_, hp2.out, hJx3⟩⟩
    · obtain rfl : k = m := by omega
      have hneg : ¬ (k : Int) < (k : Int) := by omega
      gi_wp2
      go_end0
      refine ⟨⟨_, rfl⟩, .inl ?_⟩
      rw [← hm.out, List.take_length] at hJs
      exact hJs

theorem values_hands (q : Nat) (hq : 2 ≤ q) (vb m cap : Nat) (a : Option Addr) (l : List Int) (hm : l.length = m) (hm9 : m ≤ 100000) (w : World) :
    HandsG iV q Tryz.prog 71 #[.pointer (some ⟨vb, 0, none⟩)] l (VK vb m cap a l) w := fun ld J Jx W _ hA hK hY h0 =>
  values1_in q hq ld vb m cap a l (Lib.hid hm) hm9 J Jx hK hY W hA h0

/-- what AppendSeq keeps -/
def SQ (w : World) (pre : List Int) (W : World) : Prop :=
  ∃ v, Boxed W w.heap.size 41 v ∧ W.ownsRow w.heap.size 3 1 v pre.length (pre.map iV) ∧ Below w.heap.size w W
theorem sq_own (w : World) (S : Nat) (hS : w.heap.size ≤ S) : OwnFrom S (SQ w) := by
  rintro pre X Y row ⟨v, h1, h2, h3⟩ hg hr
  refine ⟨v, h1.kept hg (fun e' => ?_), h2.kept hg ?_, h3.grown hg h3.size (fun k e => by have := (hr k e).1; omega)⟩
  · obtain ⟨_, o, ho, hc⟩ := hr _ e'.symm
    rw [show X.heap[w.heap.size]? = _ from h1] at ho; cases ho; cases hc
  · rcases h2.2 with ⟨rfl, _⟩ | ⟨g, cap, cur, rfl, _, hgb, _⟩
    · exact .inl rfl
    · refine .inr fun e' => ?_
      obtain ⟨_, o, ho, hc⟩ := hr g (by simpa [Value.ownBlock] using e'.symm)
      rw [hgb] at ho; cases ho; cases hc
/-- what AppendSeq and the like leave -/
def SqPost (w : World) (l : List Int) (e : Ending) (w' : World) : Prop :=
  ∃ v, e = .returned v ∧ w'.ownsRow w.heap.size 3 1 v l.length (l.map iV) ∧ Below w.heap.size w w'

theorem owns_ne {W : World} {base n size : Nat} {e : TypeId} {v : Value} {xs : List Value} (h : W.ownsRow base e size v n xs) {E : Nat} (hD : W.heap[E]? = some (.deferred (some []))) : ∀ g, v.ownBlock = some g → g ≠ E := by
  intro g hg e'
  rcases h.2 with ⟨rfl, _⟩ | ⟨g', cap, cur, rfl, _, hgb, _⟩
  · cases hg
  · obtain rfl : g' = g := by simpa [Value.ownBlock] using hg
    rw [e', hD] at hgb
    cases hgb

set_option maxRecDepth 100000 in
set_option maxHeartbeats 4000000 in
theorem appendSeq_in (vb m cap : Nat) (a : Option Addr) (l : List Int) (hm : Hid (l.length = m)) (hm9 : m ≤ 100000) (w : World) (hV : Hid (VK vb m cap a l w)) :
    CallsIn Fence.wide 7 Tryz.prog 82 #[.slice none 0 0, .func (.func 71) #[] #[.pointer (some ⟨vb, 0, none⟩)]] w (SqPost w l) := by
  obtain ⟨i0, hi, hz0, hz1, hz2⟩ := info_parts infoInt
  refine callsIn_of_wp_marks Tryz.func82 rfl trivial ?_ rfl
  simp only [Tryz.ntmps82, List.size_toArray, List.length_cons, List.length_nil, Nat.reduceAdd, Nat.reduceSub, Array.replicate_succ, Array.replicate_zero, List.push_toArray, List.append_toArray, List.nil_append, List.cons_append]
  gi_wp2_with fail
  refine range_nextG (enc := iV) (n := 7) (by omega) (gf := 71) (lb := #[.pointer (some ⟨vb, 0, none⟩)]) rfl (enters_of Tryz.func71 (by kernel_rfl) rfl)
    (values_hands 6 (by omega) vb m cap a l hm.out hm9 _) (Below.refl _ _)
    (SQ w) (fun _ _ => False) (sq_own w _ (by simp)) (fun _ _ _ _ h _ _ => h) ?keep ?init ?a1 ?assign ?body ?done ?stop
  case keep =>
    rintro pre W ⟨v, h1, h2, h3⟩
    exact ⟨kept1 hV.out.c h3, hV.out.l.below h3⟩
  case init => exact ⟨_, Boxed.new _ _ _, World.ownsRow_nil _ _ _ _, (Below.refl _ _).alloc (Nat.le_refl _) _⟩
  case assign =>
    intro ld x W K' hK'
    simp only [iV] at hK' ⊢
    gi_wp2
    exact hK'
  case stop => exact fun _ _ _ _ _ h _ => h.elim
  case body =>
    rintro ld pre x W ⟨v, h1, h2, h3⟩ hpre
    have hplen : pre.length + 1 ≤ m := by
      have := hpre.length_le
      rw [hm.out] at this
      simpa using this
    have c1 := h1.cell
    have f1 := h1.frozen
    have hsz := h3.size
    replace h1 := Lib.hid h1
    replace h2 := Lib.hid h2
    gi_wp2_with (first
      | (gi_at_builtin; refine wpListIn_append_own _ rfl (.tmp 8) (.tmp 10) 41 rfl w.heap.size 3 i0 (.int .i64 0) 1 8 Tryz.underlying41 hi hz0 hz1 hz2 rfl (by decide) _ _ _ rfl (h2.out.alloc _) ⟨W.heap.size, 0, none⟩ 1 1 [.int .i64 x] rfl rfl ?c1 ?c2 ?c3 ?c4 ?c5 ?_)
      | fail)
    case c1 =>
      intro j u hj
      match j, hj with
      | 0, hj => simp at hj; subst hj; simp [Addr.add]
    case c2 => intro u hu; simp at hu; subst hu; rfl
    case c3 => unfold maxLen; omega
    case c4 => omega
    case c5 => simp; omega
    intro v' w4 hown' hgrow hnn
    obtain ⟨g, cp, rfl⟩ := ownsRow_succ hown'
    obtain ⟨b1, b2, b3, b4, b5⟩ := Boxed.appended h1.out (by decide) h2.out hsz (Nat.le_refl _) hown' hgrow
    have d1 := b1.cell
    have d2 := b1.frozen
    have b6 := h3.trans b5
    replace b1 := Lib.hid b1
    replace b2 := Lib.hid b2
    replace b3 := Lib.hid b3
    replace b4 := Lib.hid b4
    clear hown' hgrow hnn h1 h2 c1 f1
    gi_wp2
    exact ⟨b4.out.from _, b4.out.walks, _, b2.out, by have h := b3.out; rw [List.length_append, List.map_append]; exact h, b6⟩
  case done =>
    rintro E W hE ⟨v, h1, h2, h3⟩ hD
    have c1 := h1.cell
    replace h1 := Lib.hid h1
    replace h2 := Lib.hid h2
    replace hD := Lib.hid hD
    gi_wp2
    refine leaves_marks [E] _ (by simp) (fun r hr => by simp at hr; subst hr; exact hD.out) ?_
    have fb := freed_but [E] W
    refine ⟨_, by simp [results, Tryz.results82, go_sem], _, rfl, owns_but h2.out fb (fun g hg e => owns_ne h2.out hD.out g hg (by simpa using e)), ?_⟩
    have := h3.size
    have hE2 : w.heap.size ≤ E := by simp at hE; omega
    exact h3.trans (fb.below this (fun k hk e => by simp at e; omega))

/-- the seven levels of the fence -/
theorem collect_any (vb m cap : Nat) (a : Option Addr) (l : List Int) (hm : Hid (l.length = m)) (hm9 : m ≤ 100000) (w : World) (hV : Hid (VK vb m cap a l w)) :
    Calls Tryz.prog 69 #[.func (.func 71) #[] #[.pointer (some ⟨vb, 0, none⟩)]] w (SqPost w l) := by
  have HS := Lib.hid ((callsIn_wide (n := 7)).1 (appendSeq_in vb m cap a l hm hm9 w hV))
  go_enter Tryz.func69, Tryz.ntmps69
  go_wp2_with fail
  refine HS.out.mono ?_
  rintro e w1 ⟨v, rfl, h1, h2⟩
  replace h1 := Lib.hid h1
  go_wp2
  go_ret
  exact ⟨_, rfl, h1.out, h2⟩

theorem sorted_any (vb m cap : Nat) (a : Option Addr) (l : List Int) (hm : Hid (l.length = m)) (hm9 : m ≤ 100000) (w : World) (hV : Hid (VK vb m cap a l w)) :
    Calls Tryz.prog 45 #[.func (.func 71) #[] #[.pointer (some ⟨vb, 0, none⟩)]] w (SqPost w (l.mergeSort fun x y => decide (x ≤ y))) := by
  have HS := Lib.hid (collect_any vb m cap a l hm hm9 w hV)
  go_enter Tryz.func45, Tryz.ntmps45
  go_wp2_with fail
  refine HS.out.mono ?_
  rintro e w1 ⟨v, rfl, hrow, hb⟩
  rcases hrow.2 with ⟨rfl, hz⟩ | ⟨gb, cap2, cur, rfl, hbase, hgb, r1, r2, r3, r4⟩
  · have hss : l = [] := List.eq_nil_of_length_eq_zero hz
    subst hss
    have HT := Lib.hid (Tryz.slices_Sort_int_none none 0 w1)
    go_wp2_with fail
    refine HT.out.mono ?_
    rintro e w2 ⟨rfl, rfl⟩
    go_wp2
    go_ret
    exact ⟨_, rfl, (by have h := World.ownsRow_nil w2 w.heap.size 3 1; simp only [List.mergeSort_nil]; exact h), hb⟩
  · have hH : Go.Sort.Holds iV w1 gb 0 l.toArray := holds_of_block_i hgb (by have h := r4; rw [Nat.mul_one] at h; exact h)
    have hgl : gb < w1.heap.size := (Array.getElem?_eq_some_iff.1 hgb).1
    have hm2 := hm.out
    have HT := Lib.hid (Tryz.slices_Sort_int gb 0 cap2 l w1 hH hgl (by omega))
    replace hgb := Lib.hid hgb
    replace r4 := Lib.hid r4
    clear hm2
    go_wp2_with fail
    refine HT.out.mono ?_
    rintro e w2 ⟨rfl, nn, os, rfl⟩
    go_wp2
    go_ret
    refine ⟨_, rfl, ?_, hb.grown (grownBy_sorted_i _) hb.size (fun j hj => by cases hj; exact hbase)⟩
    have h9 := ownsRow_sorted_i (n := nn) (os := os) (ss := l) (ts := l.mergeSort fun x y => decide (x ≤ y)) (by simp) hbase hgb.out r1 r2 r3
    rw [List.length_mergeSort]
    exact h9
end Go.Proofs.YtemacokojdeimaaGreatDoor
