/- What the claims of layer 3 share, part 15: several texts one behind the other. -/
import Derived.Test.YtidcedilfhmllaaDoorZ13
import Derived.Maps.OwnSet
import Derived.DeepKeys4
set_option linter.unusedSimpArgs false
set_option linter.unusedVariables false
/- A map from states to arrivals: what the laws of package plate need of it. -/
namespace Go.Proofs.YtidcedilfhmllaaDoor
open Go.RowKit Go.Maps Go.ChangeMaps

/-- a state that can be a key -/
def KS (y : Pl.St) : Prop := (0 ≤ y.p ∧ y.p < 6) ∧ y.t < 8
/-- an arrival, as a value -/
def arV (a : Pl.St × Int) : Value := .agg #[.int .i64 a.1.p, .int .i64 (a.1.t : Int), .bool a.1.m, .int .i64 a.2]
def ar0 : Pl.St × Int := (⟨0, 0, false⟩, 0)

theorem laidJn : laidOutB Tryd.prog = true := by kernel_rfl
theorem rowSt : (111 : TypeId) < Tryd.prog.types.size := of_decide_eq_true (by kernel_rfl)
theorem wideSt : (match Tryd.prog.underlying 111 with | some (.array _ _) | some (.struct _) => true | _ => false) = true := by kernel_rfl
theorem deepSt : Tryd.prog.keyTypeAt 4 111 = true := by kernel_rfl
set_option maxRecDepth 100000 in
theorem keyedSt : Keyed Tryd.prog 111 := Keyed.of_law (deep_law_laid laidJn (m := 4) (by omega) rowSt deepSt wideSt)
theorem mapTy : Tryd.prog.underlying 90 = some (.map 111 138) := by kernel_rfl
theorem keysAll : ∀ p : Fin 6, ∀ t : Fin 8, ∀ m : Bool, (keyOf Tryd.prog 111 (stV ⟨(p.val : Int), t.val, m⟩)).isSome = true := by decide +kernel
theorem key_st {y : Pl.St} (h : KS y) : ∃ l, keyOf Tryd.prog 111 (stV y) = some l := by
  obtain ⟨p, t, m⟩ := y
  obtain ⟨⟨h0, h1⟩, h2⟩ := h
  simp only at h0 h1 h2
  obtain ⟨q, rfl⟩ : ∃ q : Nat, p = q := ⟨p.toNat, by omega⟩
  exact Option.isSome_iff_exists.1 (keysAll ⟨q, by omega⟩ ⟨t, h2⟩ m)
theorem stV_inj {y z : Pl.St} (h : stV y = stV z) : y = z := by
  obtain ⟨p, t, m⟩ := y
  obtain ⟨p', t', m'⟩ := z
  simp only [stV, Value.agg.injEq, Array.mk.injEq, List.cons.injEq, Value.int.injEq, Value.bool.injEq, Int.natCast_inj, and_true, true_and] at h
  obtain ⟨rfl, rfl, rfl⟩ := h
  rfl

/-- block b is a map of at most n states with their arrivals -/
def AM (W : World) (b n : Nat) (f : Pl.St → Option (Pl.St × Int)) : Prop :=
  ∃ es clock, W.heap[b]? = some (.map es clock) ∧ es.size ≤ n ∧ (∀ e ∈ es.toList, ∃ y a, KS y ∧ e.key = stV y ∧ e.val = arV a ∧ f y = some a) ∧ ∀ y a, f y = some a → ∃ e ∈ es.toList, e.key = stV y

theorem AM.keys {es : Array MapEntry} {f : Pl.St → Option (Pl.St × Int)} (h : ∀ e ∈ es.toList, ∃ y a, KS y ∧ e.key = stV y ∧ e.val = arV a ∧ f y = some a) : ∀ e ∈ es.toList, ∃ l, keyOf Tryd.prog 111 e.key = some l := fun e he => by
  obtain ⟨y, a, hy, h1, _⟩ := h e he
  rw [h1]
  exact key_st hy

theorem AM.look {W : World} {b n : Nat} {f : Pl.St → Option (Pl.St × Int)} (h : AM W b n f) {y : Pl.St} (hy : KS y) :
    (Instr.lookup 90 (.map (some b)) (stV y) true).run Tryd.prog W = .ok (.tuple #[arV ((f y).getD ar0), .bool (f y).isSome]) W := by
  obtain ⟨es, clock, hb, _, h1, h2⟩ := h
  obtain ⟨l, hl⟩ := key_st hy
  rcases keyedSt.find W hl es.toList (AM.keys h1) with ⟨g1, g2⟩ | ⟨j, e0, g1, g2, g3⟩
  · have hn : f y = none := by
      cases hf : f y with
      | none => rfl
      | some a =>
        obtain ⟨e, he, hk⟩ := h2 y a hf
        exact (g2 e he hk).elim
    rw [hn]
    simp [Instr.lookup, run_underlying mapTy, MapKept.run_getObj_map hb, keyedSt.check W _ hl, g1, Result.andThen]
    rfl
  · obtain ⟨y', a, hy', k1, k2, k3⟩ := h1 e0 (List.mem_of_getElem? g2)
    obtain rfl := stV_inj (k1.symm.trans g3)
    rw [k3]
    simp [Instr.lookup, run_underlying mapTy, MapKept.run_getObj_map hb, keyedSt.check W _ hl, g1, k2, Result.andThen]

theorem AM.put {W : World} {b n : Nat} {f : Pl.St → Option (Pl.St × Int)} (h : AM W b n f) {y : Pl.St} (hy : KS y) (hf : f y = none) (a : Pl.St × Int) :
    ∃ W', (Instr.mapUpdate 90 (.map (some b)) (stV y) (arV a)).run Tryd.prog W = .ok () W' ∧ AM W' b (n + 1) (fun z => if z = y then some a else f z) ∧ W.mapTurned W' b := by
  obtain ⟨es, clock, hb, hs, h1, h2⟩ := h
  obtain ⟨l, hl⟩ := key_st hy
  rcases keyedSt.find W hl es.toList (AM.keys h1) with ⟨g1, g2⟩ | ⟨j, e0, g1, g2, g3⟩
  · refine ⟨setBlock W b (.map (es.push ⟨stV y, arV a, clock⟩) (clock + 1)), ?_, ⟨_, _, heap_setBlock_same hb _, by simp; omega, ?_, ?_⟩, ⟨es, clock, _, _, hb, rfl⟩⟩
    · simp [Instr.mapUpdate, run_underlying mapTy, MapKept.run_getObj_map hb, keyedSt.check W false hl, g1, MapKept.run_setObj_map _ hb, Result.andThen, setBlock]
    · intro e he
      simp only [Array.toList_push, List.mem_append, List.mem_singleton] at he
      rcases he with he | rfl
      · obtain ⟨y', a', k0, k1, k2, k3⟩ := h1 e he
        refine ⟨y', a', k0, k1, k2, ?_⟩
        have hne : y' ≠ y := fun e9 => by
          subst e9
          exact g2 e he k1
        show (if y' = y then some a else f y') = some a'
        rw [if_neg hne]
        exact k3
      · exact ⟨y, a, hy, rfl, rfl, by simp⟩
    · intro z c hz
      by_cases hzy : z = y
      · subst hzy
        exact ⟨⟨stV z, arV a, clock⟩, by simp, rfl⟩
      · simp only [if_neg hzy] at hz
        obtain ⟨e, he, hk⟩ := h2 z c hz
        exact ⟨e, by simp [he], hk⟩
  · obtain ⟨y', a', hy', k1, k2, k3⟩ := h1 e0 (List.mem_of_getElem? g2)
    obtain rfl := stV_inj (k1.symm.trans g3)
    rw [hf] at k3
    cases k3

theorem AM.kept {W W' : World} {b n : Nat} {f : Pl.St → Option (Pl.St × Int)} (h : AM W b n f) (hb : W'.heap[b]? = W.heap[b]?) : AM W' b n f := by
  obtain ⟨es, clock, h0, h1⟩ := h
  exact ⟨es, clock, hb.trans h0, h1⟩
theorem AM.lt {W : World} {b n : Nat} {f : Pl.St → Option (Pl.St × Int)} (h : AM W b n f) : b < W.heap.size := by
  obtain ⟨es, clock, h0, _⟩ := h
  exact (Array.getElem?_eq_some_iff.1 h0).1
theorem AM.below {W W' : World} {b n : Nat} {f : Pl.St → Option (Pl.St × Int)} (h : AM W b n f) (hb : Below W.heap.size W W') : AM W' b n f := h.kept (hb.block b h.lt)
theorem AM.set {W : World} {b n : Nat} {f : Pl.St → Option (Pl.St × Int)} (h : AM W b n f) (p : Addr) (hp : b ≠ p.block) (v : Value) : AM (W.setCell p v) b n f := h.kept (Below.heap_setCell W p v b hp)
theorem AM.drew {W : World} {b n : Nat} {f : Pl.St → Option (Pl.St × Int)} (h : AM W b n f) : AM W.drew b n f := h
theorem AM.congr {W : World} {b n : Nat} {f g : Pl.St → Option (Pl.St × Int)} (h : AM W b n f) (hg : ∀ y, f y = g y) : AM W b n g := by
  rw [show g = f from funext fun y => (hg y).symm]
  exact h
theorem AM.new (W : World) : AM (W.alloc (.map #[] 0)) W.heap.size 0 (fun _ => none) :=
  ⟨#[], 0, (MapKept.heap_alloc W (.map #[] 0)).1, Nat.le_refl _, fun e he => by simp at he, fun y a h => by cases h⟩
/-- a store into the map turns no block but the map's -/
theorem turned_below {W W' : World} {b B : Nat} (h : W.mapTurned W' b) (hB : B ≤ b) : Below B W W' :=
  ⟨h.grown.os, h.grown.tape, h.grown.output, h.grown.size, fun k hk => by
    obtain ⟨es, clock, es', clock', hb, rfl⟩ := h
    show (W.heap.setIfInBounds b _)[k]? = _
    rw [Array.getElem?_setIfInBounds_ne (by omega)]⟩
theorem turned_block {W W' : World} {b k : Nat} (h : W.mapTurned W' b) (hk : k ≠ b) : W'.heap[k]? = W.heap[k]? := by
  obtain ⟨es, clock, es', clock', hb, rfl⟩ := h
  show (W.heap.setIfInBounds b _)[k]? = _
  rw [Array.getElem?_setIfInBounds_ne hk.symm]
end Go.Proofs.YtidcedilfhmllaaDoor

/- Contracts of package plate: end, has. -/
namespace Go.Proofs.YtidcedilfhmllaaDoor
open Go.RowKit

/-- the states and the arrivals -/
def waV (x : Addr) (n cap mb : Nat) : Value := .agg #[.slice (some x) n cap, .map (some mb)]

set_option maxRecDepth 100000 in
set_option maxHeartbeats 4000000 in
theorem pEnd_any (x : Addr) (n cap mb : Nat) (hn : 0 < n) (p : Int) (t : Nat) (m : Bool) (w : World) (hx : w.cell? x = some (.int .i64 p)) :
    Calls Tryd.prog 86 #[waV x n cap mb, .agg #[.int .i64 (t : Int), .bool m]] w fun e w' => e = .returned (stV ⟨p, t, m⟩) ∧ Below w.heap.size w w' := by
  unfold waV stV
  have hn5 : (0 : Int) < (n : Int) := by omega
  go_enter Tryd.func86, Tryd.ntmps86
  go_upto_region 1 with fail
  have b0 : (((w.alloc (Obj.cells #[.slice (some x) n cap, .map (some mb)] 92)).alloc (Obj.cells #[.int .i64 (t : Int), .bool m] 70)).alloc (Obj.cells #[.int .i64 0, .int .i64 0, .bool false] 111)).cell? ⟨w.heap.size, 0, none⟩ = some (.slice (some x) n cap) := by simp [go_sem]
  have b1 : (((w.alloc (Obj.cells #[.slice (some x) n cap, .map (some mb)] 92)).alloc (Obj.cells #[.int .i64 (t : Int), .bool m] 70)).alloc (Obj.cells #[.int .i64 0, .int .i64 0, .bool false] 111)).cell? ⟨w.heap.size + 1, 0, none⟩ = some (.int .i64 (t : Int)) := by simp [go_sem]
  have b2 : (((w.alloc (Obj.cells #[.slice (some x) n cap, .map (some mb)] 92)).alloc (Obj.cells #[.int .i64 (t : Int), .bool m] 70)).alloc (Obj.cells #[.int .i64 0, .int .i64 0, .bool false] 111)).cell? ⟨w.heap.size + 1, 1, none⟩ = some (.bool m) := by simp [go_sem]
  have rS : SA (((w.alloc (Obj.cells #[.slice (some x) n cap, .map (some mb)] 92)).alloc (Obj.cells #[.int .i64 (t : Int), .bool m] 70)).alloc (Obj.cells #[.int .i64 0, .int .i64 0, .bool false] 111)) (w.heap.size + 1 + 1) ⟨0, 0, false⟩ := by
    have h := sa_new ((w.alloc (Obj.cells #[.slice (some x) n cap, .map (some mb)] 92)).alloc (Obj.cells #[.int .i64 (t : Int), .bool m] 70)) ⟨0, 0, false⟩
    simpa using h
  have hv : Below w.heap.size w (((w.alloc (Obj.cells #[.slice (some x) n cap, .map (some mb)] 92)).alloc (Obj.cells #[.int .i64 (t : Int), .bool m] 70)).alloc (Obj.cells #[.int .i64 0, .int .i64 0, .bool false] 111)) := below_alloc (below_alloc (below_alloc (Below.refl _ _) _) _) _
  replace hx := kept1 hx hv
  generalize ((w.alloc (Obj.cells #[.slice (some x) n cap, .map (some mb)] 92)).alloc (Obj.cells #[.int .i64 (t : Int), .bool m] 70)).alloc (Obj.cells #[.int .i64 0, .int .i64 0, .bool false] 111) = X at *
  have t0 : X.cell? ⟨w.heap.size + 1 + 1, 0, none⟩ = some (.int .i64 0) := World.rowIs.cell rS (i := 0) (by omega)
  have t1 : X.cell? ⟨w.heap.size + 1 + 1, 1, none⟩ = some (.int .i64 0) := World.rowIs.cell rS (i := 1) (by omega)
  have t2 : X.cell? ⟨w.heap.size + 1 + 1, 2, none⟩ = some (.bool false) := World.rowIs.cell rS (i := 2) (by omega)
  have z0 := World.rowIs.frozen rS 0
  have z1 := World.rowIs.frozen rS 1
  have z2 := World.rowIs.frozen rS 2
  have hS : SA (((X.setCell ⟨w.heap.size + 1 + 1, 0, none⟩ (.int .i64 p)).setCell ⟨w.heap.size + 1 + 1, 1, none⟩ (.int .i64 (t : Int))).setCell ⟨w.heap.size + 1 + 1, 2, none⟩ (.bool m)) (w.heap.size + 1 + 1) ⟨p, t, m⟩ := SA.set rS ⟨p, t, m⟩
  have hq0 : (((X.setCell ⟨w.heap.size + 1 + 1, 0, none⟩ (.int .i64 p)).setCell ⟨w.heap.size + 1 + 1, 1, none⟩ (.int .i64 (t : Int))).setCell ⟨w.heap.size + 1 + 1, 2, none⟩ (.bool m)).cell? ⟨w.heap.size + 1 + 1, 0, none⟩ = some (.int .i64 p) := World.rowIs.cell hS (i := 0) (by omega)
  have hq1 : (((X.setCell ⟨w.heap.size + 1 + 1, 0, none⟩ (.int .i64 p)).setCell ⟨w.heap.size + 1 + 1, 1, none⟩ (.int .i64 (t : Int))).setCell ⟨w.heap.size + 1 + 1, 2, none⟩ (.bool m)).cell? ⟨w.heap.size + 1 + 1, 1, none⟩ = some (.int .i64 (t : Int)) := World.rowIs.cell hS (i := 1) (by omega)
  have hq2 : (((X.setCell ⟨w.heap.size + 1 + 1, 0, none⟩ (.int .i64 p)).setCell ⟨w.heap.size + 1 + 1, 1, none⟩ (.int .i64 (t : Int))).setCell ⟨w.heap.size + 1 + 1, 2, none⟩ (.bool m)).cell? ⟨w.heap.size + 1 + 1, 2, none⟩ = some (.bool m) := World.rowIs.cell hS (i := 2) (by omega)
  have hZ : Below w.heap.size w (((X.setCell ⟨w.heap.size + 1 + 1, 0, none⟩ (.int .i64 p)).setCell ⟨w.heap.size + 1 + 1, 1, none⟩ (.int .i64 (t : Int))).setCell ⟨w.heap.size + 1 + 1, 2, none⟩ (.bool m)) := ((hv.setCell (p := ⟨w.heap.size + 1 + 1, 0, none⟩) (by show w.heap.size ≤ w.heap.size + 1 + 1; omega) _).setCell (p := ⟨w.heap.size + 1 + 1, 1, none⟩) (by show w.heap.size ≤ w.heap.size + 1 + 1; omega) _).setCell (p := ⟨w.heap.size + 1 + 1, 2, none⟩) (by show w.heap.size ≤ w.heap.size + 1 + 1; omega) _
  clear rS
  go_region
  go_wp2
  generalize ((X.setCell ⟨w.heap.size + 1 + 1, 0, none⟩ (.int .i64 p)).setCell ⟨w.heap.size + 1 + 1, 1, none⟩ (.int .i64 (t : Int))).setCell ⟨w.heap.size + 1 + 1, 2, none⟩ (.bool m) = V at *
  refine bodyPost_ret (v := .agg #[.int .i64 p, .int .i64 (t : Int), .bool m]) (by simp [results, Tryd.results86, go_sem, hq0, hq1, hq2]) rfl ?_
  exact ⟨rfl, hZ.drew⟩
end Go.Proofs.YtidcedilfhmllaaDoor

/- Contracts of package plate: has. -/
namespace Go.Proofs.YtidcedilfhmllaaDoor
open Go.RowKit

/-- what has's first region reads -/
theorem keepHas {X W W' : World} {N mb n : Nat} {x : Addr} {v0 v1 v2 v3 v4 lk : Value} {f : Pl.St → Option (Pl.St × Int)} {y : Pl.St} {key : Value} (hkey : key = stV y) (hy : KS y) (hlk : lk = .tuple #[arV ((f y).getD ar0), .bool (f y).isSome])
    (h : W.cell? ⟨N, 0, none⟩ = some v0 ∧ W.cell? ⟨N, 1, none⟩ = some v1 ∧ W.cell? ⟨N + 1, 0, none⟩ = some v2 ∧ W.cell? ⟨N + 1, 1, none⟩ = some v3 ∧ W.cell? x = some v4 ∧ (Instr.lookup 90 (.map (some mb)) key true).run Tryd.prog W = .ok lk W ∧ AM W mb n f ∧ Below X.heap.size X W) (hb : Below W.heap.size W W') :
    W'.cell? ⟨N, 0, none⟩ = some v0 ∧ W'.cell? ⟨N, 1, none⟩ = some v1 ∧ W'.cell? ⟨N + 1, 0, none⟩ = some v2 ∧ W'.cell? ⟨N + 1, 1, none⟩ = some v3 ∧ W'.cell? x = some v4 ∧ (Instr.lookup 90 (.map (some mb)) key true).run Tryd.prog W' = .ok lk W' ∧ AM W' mb n f ∧ Below X.heap.size X W' := by
  obtain ⟨h0, h1, h2, h3, h4, _, h6, h7⟩ := h
  have h6' := h6.below hb
  refine ⟨kept1 h0 hb, kept1 h1 hb, kept1 h2 hb, kept1 h3 hb, kept1 h4 hb, ?_, h6', h7.trans (hb.mono h7.size)⟩
  rw [hkey, hlk]
  exact h6'.look hy

theorem ar_kept {Y wp : World} (h : Below (Y.alloc (Obj.cells #[.int .i64 0, .int .i64 0, .bool false, .int .i64 0] 138)).heap.size (Y.alloc (Obj.cells #[.int .i64 0, .int .i64 0, .bool false, .int .i64 0] 138)) wp) :
    wp.cell? ⟨Y.heap.size, 0, none⟩ = some (.int .i64 0) ∧ wp.cell? ⟨Y.heap.size, 1, none⟩ = some (.int .i64 0) ∧ wp.cell? ⟨Y.heap.size, 2, none⟩ = some (.bool false) ∧ wp.cell? ⟨Y.heap.size, 3, none⟩ = some (.int .i64 0) ∧ (∀ i, wp.frozen? ⟨Y.heap.size, i, none⟩ = false) := by
  have r : (Y.alloc (Obj.cells #[.int .i64 0, .int .i64 0, .bool false, .int .i64 0] 138)).rowIs Y.heap.size 138 4 (fun i => if i = 2 then .bool false else .int .i64 0) := World.rowIs_alloc Y _ _ _ (fun i hi => by
    match i, hi with
    | 0, _ => rfl
    | 1, _ => rfl
    | 2, _ => rfl
    | 3, _ => rfl)
  have r' := Below.row' h r
  exact ⟨r'.cell (i := 0) (by omega), r'.cell (i := 1) (by omega), r'.cell (i := 2) (by omega), r'.cell (i := 3) (by omega), fun i => r'.frozen i⟩

theorem undrew {Z wp : World} (h : Below Z.drew.heap.size Z.drew wp) : Below Z.heap.size Z wp := ⟨h.os, h.tape, h.output, h.size, h.block⟩
theorem ar_mid {Y wp : World} {o : Obj} (h : Below (Y.alloc o).heap.size (Y.alloc o) wp) : Below Y.heap.size Y wp :=
  ((Below.refl Y.heap.size Y).alloc (Nat.le_refl _) o).trans (h.mono (by simp))
theorem ar_set {Y wp : World} {o : Obj} {a b c d : Value} (h : Below (Y.alloc o).heap.size (Y.alloc o) wp) : Below Y.heap.size Y ((((wp.setCell ⟨Y.heap.size, 0, none⟩ a).setCell ⟨Y.heap.size, 1, none⟩ b).setCell ⟨Y.heap.size, 2, none⟩ c).setCell ⟨Y.heap.size, 3, none⟩ d) :=
  ((((ar_mid h).setCell (p := ⟨Y.heap.size, 0, none⟩) (Nat.le_refl _) _).setCell (p := ⟨Y.heap.size, 1, none⟩) (Nat.le_refl _) _).setCell (p := ⟨Y.heap.size, 2, none⟩) (Nat.le_refl _) _).setCell (p := ⟨Y.heap.size, 3, none⟩) (Nat.le_refl _) _

set_option maxRecDepth 100000 in
set_option maxHeartbeats 4000000 in
theorem pHas_any (x : Addr) (n cap mb k : Nat) (hn : 0 < n) (f : Pl.St → Option (Pl.St × Int)) (p : Int) (t : Nat) (m : Bool) (hy : KS ⟨p, t, m⟩) (w : World) (hx : w.cell? x = some (.int .i64 p)) (hA : AM w mb k f) :
    Calls Tryd.prog 65 #[waV x n cap mb, .agg #[.int .i64 (t : Int), .bool m]] w fun e w' => e = .returned (.bool (f ⟨p, t, m⟩).isSome) ∧ Below w.heap.size w w' := by
  obtain ⟨fd, hfd⟩ : ∃ b, (f ⟨p, t, m⟩).isSome = b := ⟨_, rfl⟩
  obtain ⟨s0, t0, m0, k0, hv0⟩ : ∃ (s0 : Int) (t0 : Nat) (m0 : Bool) (k0 : Int), (f ⟨p, t, m⟩).getD ar0 = (⟨s0, t0, m0⟩, k0) := ⟨_, _, _, _, rfl⟩
  have hlk : Value.tuple #[.agg #[.int .i64 s0, .int .i64 (t0 : Int), .bool m0, .int .i64 k0], .bool fd] = .tuple #[arV ((f ⟨p, t, m⟩).getD ar0), .bool (f ⟨p, t, m⟩).isSome] := by
    rw [hv0, hfd]
    rfl
  rw [hfd]
  have HE := fun (W : World) (h : W.cell? x = some (.int .i64 p)) => pEnd_any x n cap mb hn p t m W h
  unfold waV stV at HE
  replace HE := Lib.hid HE
  replace hlk := Lib.hid hlk
  unfold waV
  clear hfd hv0
  go_enter Tryd.func65, Tryd.ntmps65
  go_upto_region 1 with fail
  have b0 : ((w.alloc (Obj.cells #[.slice (some x) n cap, .map (some mb)] 92)).alloc (Obj.cells #[.int .i64 (t : Int), .bool m] 70)).cell? ⟨w.heap.size, 0, none⟩ = some (.slice (some x) n cap) := by simp [go_sem]
  have b1 : ((w.alloc (Obj.cells #[.slice (some x) n cap, .map (some mb)] 92)).alloc (Obj.cells #[.int .i64 (t : Int), .bool m] 70)).cell? ⟨w.heap.size, 1, none⟩ = some (.map (some mb)) := by simp [go_sem]
  have b2 : ((w.alloc (Obj.cells #[.slice (some x) n cap, .map (some mb)] 92)).alloc (Obj.cells #[.int .i64 (t : Int), .bool m] 70)).cell? ⟨w.heap.size + 1, 0, none⟩ = some (.int .i64 (t : Int)) := by simp [go_sem]
  have b3 : ((w.alloc (Obj.cells #[.slice (some x) n cap, .map (some mb)] 92)).alloc (Obj.cells #[.int .i64 (t : Int), .bool m] 70)).cell? ⟨w.heap.size + 1, 1, none⟩ = some (.bool m) := by simp [go_sem]
  have hv : Below w.heap.size w ((w.alloc (Obj.cells #[.slice (some x) n cap, .map (some mb)] 92)).alloc (Obj.cells #[.int .i64 (t : Int), .bool m] 70)) := below_alloc (below_alloc (Below.refl _ _) _) _
  replace hx := kept1 hx hv
  have hA2 := hA.below hv
  generalize (w.alloc (Obj.cells #[.slice (some x) n cap, .map (some mb)] 92)).alloc (Obj.cells #[.int .i64 (t : Int), .bool m] 70) = X at *
  have hL0 : (Instr.lookup 90 (.map (some mb)) (.agg #[.int .i64 p, .int .i64 (t : Int), .bool m]) true).run Tryd.prog X = .ok (.tuple #[.agg #[.int .i64 s0, .int .i64 (t0 : Int), .bool m0, .int .i64 k0], .bool fd]) X := by
    rw [hlk.out]
    exact hA2.look hy
  have hL1 : (Instr.lookup 90 (.map (some mb)) (.agg #[.int .i64 p, .int .i64 (t : Int), .bool m]) true).run Tryd.prog X.drew = .ok (.tuple #[.agg #[.int .i64 s0, .int .i64 (t0 : Int), .bool m0, .int .i64 k0], .bool fd]) X.drew := by
    rw [hlk.out]
    exact hA2.drew.look hy
  go_cut [6] from 7 to 15 (fun s6 wx => s6 = .bool fd ∧ Below w.heap.size w wx)
  case first =>
    have S0 : X.drew.cell? ⟨w.heap.size, 0, none⟩ = some (.slice (some x) n cap) ∧ X.drew.cell? ⟨w.heap.size, 1, none⟩ = some (.map (some mb)) ∧ X.drew.cell? ⟨w.heap.size + 1, 0, none⟩ = some (.int .i64 (t : Int)) ∧ X.drew.cell? ⟨w.heap.size + 1, 1, none⟩ = some (.bool m) ∧ X.drew.cell? x = some (.int .i64 p) ∧ (Instr.lookup 90 (.map (some mb)) (.agg #[.int .i64 p, .int .i64 (t : Int), .bool m]) true).run Tryd.prog X.drew = .ok (.tuple #[.agg #[.int .i64 s0, .int .i64 (t0 : Int), .bool m0, .int .i64 k0], .bool fd]) X.drew ∧ AM X.drew mb k f ∧ Below X.heap.size X X.drew := ⟨b0, b1, b2, b3, hx, hL1, hA2, (Below.refl _ _).drew⟩
    have S1 : X.cell? ⟨w.heap.size, 0, none⟩ = some (.slice (some x) n cap) ∧ X.cell? ⟨w.heap.size, 1, none⟩ = some (.map (some mb)) ∧ X.cell? ⟨w.heap.size + 1, 0, none⟩ = some (.int .i64 (t : Int)) ∧ X.cell? ⟨w.heap.size + 1, 1, none⟩ = some (.bool m) ∧ X.cell? x = some (.int .i64 p) ∧ (Instr.lookup 90 (.map (some mb)) (.agg #[.int .i64 p, .int .i64 (t : Int), .bool m]) true).run Tryd.prog X = .ok (.tuple #[.agg #[.int .i64 s0, .int .i64 (t0 : Int), .bool m0, .int .i64 k0], .bool fd]) X ∧ AM X mb k f ∧ Below X.heap.size X X := ⟨b0, b1, b2, b3, hx, hL0, hA2, Below.refl _ _⟩
    have HF := Lib.hid (fun (W : World) (h : W.cell? ⟨w.heap.size, 0, none⟩ = some (.slice (some x) n cap) ∧ W.cell? ⟨w.heap.size, 1, none⟩ = some (.map (some mb)) ∧ W.cell? ⟨w.heap.size + 1, 0, none⟩ = some (.int .i64 (t : Int)) ∧ W.cell? ⟨w.heap.size + 1, 1, none⟩ = some (.bool m) ∧ W.cell? x = some (.int .i64 p) ∧ (Instr.lookup 90 (.map (some mb)) (.agg #[.int .i64 p, .int .i64 (t : Int), .bool m]) true).run Tryd.prog W = .ok (.tuple #[.agg #[.int .i64 s0, .int .i64 (t0 : Int), .bool m0, .int .i64 k0], .bool fd]) W ∧ AM W mb k f ∧ Below X.heap.size X W) => HE.out W h.2.2.2.2.1)
    clear HE
    go_region_held3 (fun w' => w'.cell? ⟨w.heap.size, 0, none⟩ = some (.slice (some x) n cap) ∧ w'.cell? ⟨w.heap.size, 1, none⟩ = some (.map (some mb)) ∧ w'.cell? ⟨w.heap.size + 1, 0, none⟩ = some (.int .i64 (t : Int)) ∧ w'.cell? ⟨w.heap.size + 1, 1, none⟩ = some (.bool m) ∧ w'.cell? x = some (.int .i64 p) ∧ (Instr.lookup 90 (.map (some mb)) (.agg #[.int .i64 p, .int .i64 (t : Int), .bool m]) true).run Tryd.prog w' = .ok (.tuple #[.agg #[.int .i64 s0, .int .i64 (t0 : Int), .bool m0, .int .i64 k0], .bool fd]) w' ∧ AM w' mb k f ∧ Below X.heap.size X w')
      (first | with_reducible exact S0 | with_reducible assumption | exact keepHas rfl hy hlk.out (by with_reducible assumption) hbp | exact keepHas rfl hy hlk.out (by with_reducible assumption) (below_alloc (Below.refl _ _) _) | exact keepHas rfl hy hlk.out S0 (below_alloc (Below.refl _ _) _) | exact keepHas rfl hy hlk.out S0 (Below.alloc hbp hbp.size _) | exact keepHas rfl hy hlk.out S0 (ar_set hbp) | exact keepHas rfl hy hlk.out S0 (ar_mid hbp) | exact keepHas rfl hy hlk.out S1 (ar_mid (undrew hbp)) | exact keepHas rfl hy hlk.out S1 (ar_set (undrew hbp)))
      (first
        | (with_reducible refine (HF.out _ (by first | with_reducible assumption | exact S0)).mono ?_
           rintro e wp ⟨he, hbp⟩
           subst he
           first
             | (have ra : wp.cell? ⟨X.heap.size, 0, none⟩ = some (.int .i64 0) ∧ wp.cell? ⟨X.heap.size, 1, none⟩ = some (.int .i64 0) ∧ wp.cell? ⟨X.heap.size, 2, none⟩ = some (.bool false) ∧ wp.cell? ⟨X.heap.size, 3, none⟩ = some (.int .i64 0) ∧ (∀ i, wp.frozen? ⟨X.heap.size, i, none⟩ = false) := ar_kept hbp
                obtain ⟨ra0, ra1, ra2, ra3, raf⟩ := ra)
             | (have ra : wp.cell? ⟨X.heap.size, 0, none⟩ = some (.int .i64 0) ∧ wp.cell? ⟨X.heap.size, 1, none⟩ = some (.int .i64 0) ∧ wp.cell? ⟨X.heap.size, 2, none⟩ = some (.bool false) ∧ wp.cell? ⟨X.heap.size, 3, none⟩ = some (.int .i64 0) ∧ (∀ i, wp.frozen? ⟨X.heap.size, i, none⟩ = false) := ar_kept (undrew hbp)
                obtain ⟨ra0, ra1, ra2, ra3, raf⟩ := ra)
             | skip))
    all_goals go_wp2_with fail
    all_goals go_meet
    all_goals refine ⟨rfl, hv.trans (Below.mono ?_ hv.size)⟩
    all_goals first
      | exact ar_set hbp
      | exact ar_set (undrew hbp)
      | exact Below.alloc hbp hbp.size _
      | exact Below.alloc (undrew hbp) hbp.size _
      | exact Below.drew (ar_set (undrew hbp))
      | exact Below.drew (Below.alloc (undrew hbp) hbp.size _)
      | trace_state
  case rest =>
    generalize wc = Y at hcut ⊢
    clear wc
    obtain ⟨rfl, HT⟩ := hcut
    go_wp2
    go_ret
    exact ⟨rfl, HT⟩
end Go.Proofs.YtidcedilfhmllaaDoor

/- A look-up without ok in a map of arrivals; walks' first state. -/
namespace Go.Proofs.YtidcedilfhmllaaDoor
open Go.RowKit Go.Maps Go.ChangeMaps

theorem AM.look1 {W : World} {b n : Nat} {f : Pl.St → Option (Pl.St × Int)} (h : AM W b n f) {y : Pl.St} (hy : KS y) :
    (Instr.lookup 90 (.map (some b)) (stV y) false).run Tryd.prog W = .ok (arV ((f y).getD ar0)) W := by
  obtain ⟨es, clock, hb, _, h1, h2⟩ := h
  obtain ⟨l, hl⟩ := key_st hy
  rcases keyedSt.find W hl es.toList (AM.keys h1) with ⟨g1, g2⟩ | ⟨j, e0, g1, g2, g3⟩
  · have hn : f y = none := by
      cases hf : f y with
      | none => rfl
      | some a =>
        obtain ⟨e, he, hk⟩ := h2 y a hf
        exact (g2 e he hk).elim
    rw [hn]
    simp [Instr.lookup, run_underlying mapTy, MapKept.run_getObj_map hb, keyedSt.check W _ hl, g1, Result.andThen]
    rfl
  · obtain ⟨y', a, hy', k1, k2, k3⟩ := h1 e0 (List.mem_of_getElem? g2)
    obtain rfl := stV_inj (k1.symm.trans g3)
    rw [k3]
    simp [Instr.lookup, run_underlying mapTy, MapKept.run_getObj_map hb, keyedSt.check W _ hl, g1, k2, Result.andThen]
/-- the map that makeMap lays and one insert fills -/
theorem AM.put0 {W : World} {b : Nat} (h : AM W b 0 (fun _ => none)) {y : Pl.St} (hy : KS y) (a : Pl.St × Int) :
    ∃ W', (Instr.mapUpdate 90 (.map (some b)) (stV y) (arV a)).run Tryd.prog W = .ok () W' ∧ AM W' b 1 (fun z => if z = y then some a else none) ∧ W.mapTurned W' b := h.put hy rfl a
end Go.Proofs.YtidcedilfhmllaaDoor
