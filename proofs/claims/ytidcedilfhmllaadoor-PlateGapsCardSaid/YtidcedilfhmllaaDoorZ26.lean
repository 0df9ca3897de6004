/- What the claims of layer 3 share, part 26: several texts one behind the other. -/
import Derived.Test.YtidcedilfhmllaaDoorZ20
import Derived.Test.YtidcedilfhmllaaDoorZ21
import Derived.Test.YtidcedilfhmllaaDoorZ13
import Derived.Test.YtidcedilfhmllaaDoorZ25
import Derived.Test.YtidcedilfhmllaaDoorZ24
import Derived.Test.YtidcedilfhmllaaDoorZ19
import Derived.Maps.OwnIn
import Derived.Sort.LoopGhostIn
import Derived.Sort.QuietIn
import Derived.Sort.CutIn
set_option linter.unusedSimpArgs false
set_option linter.unusedVariables false
/- Prove, mirrored, and what its loop over the signs keeps. -/
namespace Pl
variable {α : Type}
/-- what is left of a list behind c rounds of leaving out, from its end on -/
def prd (P : List α → Bool) (l : List α) : Nat → List α
  | 0 => l
  | c + 1 => if P ((prd P l c).eraseIdx (l.length - 1 - c)) then (prd P l c).eraseIdx (l.length - 1 - c) else prd P l c
theorem prd_len (P : List α → Bool) (l : List α) : ∀ c, c ≤ l.length → l.length - c ≤ (prd P l c).length ∧ (prd P l c).length ≤ l.length
  | 0, _ => ⟨Nat.le_refl _, Nat.le_refl _⟩
  | c + 1, h => by
    have ih := prd_len P l c (by omega)
    unfold prd
    split
    · have e : ((prd P l c).eraseIdx (l.length - 1 - c)).length = (prd P l c).length - 1 := by rw [List.length_eraseIdx_of_lt (by omega)]
      rw [e]
      omega
    · omega
theorem prd_mem (P : List α → Bool) (l : List α) : ∀ c, ∀ x ∈ prd P l c, x ∈ l
  | 0, _, h => h
  | c + 1, x, h => by
    unfold prd at h
    split at h
    · exact prd_mem P l c x (List.mem_of_mem_eraseIdx h)
    · exact prd_mem P l c x h
/-- the walk with a sign -/
def wlk (L : List Wk) (p : Int) (g : Nat × Bool) : List Int := (((ways L p).find? fun e => decide (e.1 = ⟨p, g.1, g.2⟩)).map Prod.snd).getD []
theorem wlk_in {L : List Wk} {p : Int} {g : Nat × Bool} (h : g ∈ signs L p) : ((⟨p, g.1, g.2⟩ : St), wlk L p g) ∈ ways L p := by
  unfold signs at h
  have h2 := of_decide_eq_true (List.mem_filter.1 h).2
  obtain ⟨e, he, h3⟩ := List.mem_map.1 h2
  unfold wlk
  cases hf : (ways L p).find? fun e => decide (e.1 = ⟨p, g.1, g.2⟩) with
  | none =>
    have := List.find?_eq_none.1 hf e he
    simp [h3] at this
  | some e2 =>
    have h4 : e2.1 = ⟨p, g.1, g.2⟩ := by simpa using List.find?_some hf
    have h5 := List.mem_of_find?_eq_some hf
    obtain ⟨a, b⟩ := e2
    simp only at h4
    subst h4
    exact h5
/-- Prove's walks -/
def prvW (s : Nat) (L : List Wk) (p : Int) : List (List Int) := (prd (fun G => frd s G == 0) (signs L p) (signs L p).length).map (wlk L p)
end Pl
namespace Go.Proofs.YtidcedilfhmllaaDoor
open Go.RowKit

/-- the list of signs that is left, in its box -/
structure SGb (W : World) (sb : Nat) (G : List (Nat × Bool)) : Prop where
  v : ∃ v, W.cell? ⟨sb, 0, none⟩ = some v ∧ W.ownsRow 0 70 2 v G.length (sgCells G) ∧ v.ownBlock ≠ some sb
  f : W.frozen? ⟨sb, 0, none⟩ = false
theorem SGb.but {T : Nat → Prop} {W W' : World} {sb : Nat} {G : List (Nat × Bool)} (h : SGb W sb G) (hb : But T W W') (h1 : ¬ T sb) (h2 : ∀ g, (∃ cs e, W.heap[g]? = some (.cells cs e)) → g ≠ sb → ¬ T g) : SGb W' sb G := by
  obtain ⟨v, d, o, n⟩ := h.v
  refine ⟨⟨v, hb.kept d h1, ownBut o hb (fun g hg => ?_), n⟩, (hb.frozen (p := ⟨sb, 0, none⟩) (block_lt_of_cell d) h1).trans h.f⟩
  refine h2 g ?_ (fun e => n (by rw [hg, e]))
  obtain ⟨_, o2⟩ := o
  rcases o2 with ⟨hv, _⟩ | ⟨g', cap, cur, hv, _, hc, _⟩
  · rw [hv] at hg; cases hg
  · rw [hv] at hg
    obtain rfl : g' = g := by cases hg; rfl
    exact ⟨cur, _, hc⟩
theorem SGb.below {W W' : World} {sb : Nat} {G : List (Nat × Bool)} (h : SGb W sb G) (hb : Below W.heap.size W W') : SGb W' sb G :=
  h.but (T := fun _ => False) ((But.of_below hb).mono (fun _ _ h => h)) id (fun _ _ _ h => h)
/-- another list is put into the box -/
theorem SGb.put {W : World} {sb : Nat} {G G' : List (Nat × Bool)} (h : SGb W sb G) {v' : Value} (ho : W.ownsRow 0 70 2 v' G'.length (sgCells G')) (hn : v'.ownBlock ≠ some sb) : SGb (W.setCell ⟨sb, 0, none⟩ v') sb G' := by
  obtain ⟨v, d, _, _⟩ := h.v
  have hs : But (fun k => k = sb) W (W.setCell ⟨sb, 0, none⟩ v') := (But.refl (fun k => k = sb) W).setCell (p := ⟨sb, 0, none⟩) (.inr rfl) _
  refine ⟨⟨v', by simp [go_sem, d], ownBut ho hs (fun g hg e => hn (by rw [hg, e])), hn⟩, ?_⟩
  have hf := h.f
  simp [go_sem, hf]

/-- what the loop over the signs keeps -/
def KP (Wr : World) (sb : Nat) (P : List (Nat × Bool) → Bool) (G : List (Nat × Bool)) (pre : List (Nat × (Nat × Bool))) (W : World) : Prop :=
  But (fun g => g = sb) Wr W ∧ SGb W sb (Pl.prd P G pre.length)
theorem kp_own (Wr : World) (S sb : Nat) (hS : Wr.heap.size = S) (hsb : sb < S) (P : List (Nat × Bool) → Bool) (G : List (Nat × Bool)) : OwnFrom S (KP Wr sb P G) := by
  intro pre W W' row ⟨h1, h2⟩ hg hr
  refine ⟨⟨hg.os.trans h1.os, hg.tape.trans h1.tape, hg.output.trans h1.output, Nat.le_trans h1.size hg.size, fun k hk hn => (hg.block k (Nat.lt_of_lt_of_le hk h1.size) (fun e => by have := (hr k e.symm).1; omega)).trans (h1.block k hk hn)⟩, h2.but (butGrown hg) (fun e => by have := (hr sb e).1; omega) (fun g hcs _ e => ?_)⟩
  obtain ⟨cs, t, hc⟩ := hcs
  obtain ⟨_, o, ho, hcl⟩ := hr g e
  rw [hc] at ho
  obtain rfl := Option.some.inj ho
  simp [Obj.isCells] at hcl
end Go.Proofs.YtidcedilfhmllaaDoor

/- Contracts of package plate: Prove of a plate that is flat. -/
namespace Go.Proofs.YtidcedilfhmllaaDoor
open Go.RowKit
attribute [local go_sem] Oper.semAt_some

/-- what Prove leaves -/
def PvPost (w : World) (LS : List (List Int)) (e : Ending) (w' : World) : Prop :=
  ∃ v n c, e = .returned (.tuple #[.slice v n c, .int .i64 0]) ∧ Hid (LS.length = n) ∧ Hid (LnAt w' v LS) ∧ Below w.heap.size w w'

theorem par_ways (L : List Pl.Wk) (p : Int) : Pl.Par (Pl.adv L) (Pl.ways L p) := Pl.Par.bfs _ _ _ (Pl.par_start _ _)
theorem lens_all {f : Pl.St → Int → Option Pl.St} {R : List (Pl.St × List Int)} (h : Pl.Par f R) : ∀ (n : Nat) (e : Pl.St × List Int), e ∈ R → e.2.length = n → ∀ j, j ≤ n → ∃ e' ∈ R, e'.2.length = j
  | 0, e, he, hl, j, hj => ⟨e, he, by omega⟩
  | n + 1, e, he, hl, j, hj => by
    by_cases hjn : j = n + 1
    · exact ⟨e, he, by omega⟩
    · rcases h e he with h0 | ⟨x, hx, t, hxt, _⟩
      · rw [h0] at hl
        simp at hl
      · refine lens_all h n x hx ?_ j (by omega)
        rw [hxt, List.length_append] at hl
        simp at hl
        exact hl
theorem ways_lens {L : List Pl.Wk} {p : Int} {e : Pl.St × List Int} (he : e ∈ Pl.ways L p) : e.2.length + 1 ≤ (Pl.ways L p).length := by
  have h := Pl.nodup_le (U := (Pl.ways L p).map fun e => e.2.length) (l := List.range (e.2.length + 1)) List.nodup_range (fun j hj => by
    obtain ⟨e', h1, h2⟩ := lens_all (par_ways L p) _ e he rfl j (by have := List.mem_range.1 hj; omega)
    exact List.mem_map.2 ⟨e', h1, h2⟩)
  simpa using h
theorem NsAt.but {T : Nat → Prop} {W W' : World} {a : Option Addr} {l : List Int} (h : NsAt W a l) (hb : But T W W') (ht : ∀ g, T g → ∀ o, W.heap[g]? = some o → o.isCells = false) : NsAt W' a l := fun k hk => by
  obtain ⟨x, rfl, hc⟩ := h k hk
  refine ⟨x, rfl, hb.kept hc (fun e => ?_)⟩
  have hlt := block_lt_of_cell hc
  have h1 := cells_of_cell hc (o := W.heap[(x.add k).block]) (Array.getElem?_eq_getElem hlt)
  rw [ht _ e _ (Array.getElem?_eq_getElem hlt)] at h1
  cases h1
/-- the walks that were found, as slices in a row of one's own -/
structure PvL (W0 W : World) (v : Value) (k : Nat) (WL : List (List Int)) (xs : List Value) : Prop where
  o : W.ownsRow W0.heap.size 22 1 v k xs
  l : xs.length = k
  a : ∀ i, i < k → ∃ b n c, xs[i]? = some (.slice b n c) ∧ (WL.getD i []).length = n ∧ NsAt W b (WL.getD i []) ∧ ∀ y, b = some y → y.block < W.heap.size ∧ v.ownBlock ≠ some y.block
  b : Below W0.heap.size W0 W
theorem PvL.below {W0 W W' : World} {v : Value} {k : Nat} {WL : List (List Int)} {xs : List Value} (h : PvL W0 W v k WL xs) (hb : Below W.heap.size W W') : PvL W0 W' v k WL xs :=
  ⟨ownBelow h.o hb, h.l, fun i hi => by
    obtain ⟨b, n, c, h1, h2, h3, h4⟩ := h.a i hi
    exact ⟨b, n, c, h1, h2, h3.below hb, fun y e => ⟨Nat.lt_of_lt_of_le (h4 y e).1 hb.size, (h4 y e).2⟩⟩, h.b.trans (hb.mono h.b.size)⟩
theorem PvL.more {W0 W W4 : World} {v v' : Value} {k : Nat} {WL : List (List Int)} {xs : List Value} {o : Obj} (h : PvL W0 W v k WL xs) {b : Option Addr} {n c : Nat} (hn : (WL.getD k []).length = n) (hN : NsAt W b (WL.getD k [])) (hbf : ∀ y, b = some y → y.block < W.heap.size ∧ v.ownBlock ≠ some y.block) (hown : W4.ownsRow W0.heap.size 22 1 v' (k + 1) (xs ++ [.slice b n c])) (hgrow : (W.alloc o).grownBy W4 v.ownBlock) (hat : v'.ownBlock = v.ownBlock ∨ v'.ownBlock = some (W.heap.size + 1)) : PvL W0 W4 v' (k + 1) WL (xs ++ [.slice b n c]) := by
  have hA := below_alloc (Below.refl W.heap.size W) o
  have hz : W.heap.size ≤ W4.heap.size := Nat.le_trans hA.size hgrow.size
  have kp : ∀ {b : Option Addr} {l : List Int}, NsAt W b l → (∀ y, b = some y → y.block < W.heap.size ∧ v.ownBlock ≠ some y.block) → NsAt W4 b l ∧ ∀ y, b = some y → y.block < W4.heap.size ∧ v'.ownBlock ≠ some y.block := fun hN hbf => by
    refine ⟨fun j hj => ?_, fun y e => ⟨Nat.lt_of_lt_of_le (hbf y e).1 hz, fun e2 => ?_⟩⟩
    · obtain ⟨y, rfl, hc⟩ := hN j hj
      refine ⟨y, rfl, (butGrown hgrow).kept (kept1 hc hA) (fun e => (hbf y rfl).2 ?_)⟩
      have hyb : (y.add j).block = y.block := by unfold Addr.add; split <;> rfl
      rw [e, hyb]
    · rcases hat with hh | hh
      · exact (hbf y e).2 (by rw [← hh, e2])
      · rw [hh] at e2
        have := Option.some.inj e2
        have := (hbf y e).1
        omega
  refine ⟨hown, by rw [List.length_append, h.l]; rfl, fun i hi => ?_, ?_⟩
  · by_cases e : i = k
    · subst e
      refine ⟨b, n, c, ?_, hn, kp hN hbf⟩
      rw [List.getElem?_append_right (by rw [h.l]; exact Nat.le_refl _), h.l, Nat.sub_self]
      rfl
    · obtain ⟨b', n', c', h1, h2, h3, h4⟩ := h.a i (by omega)
      exact ⟨b', n', c', by rw [List.getElem?_append_left (by rw [h.l]; omega)]; exact h1, h2, kp h3 h4⟩
  · exact (below_alloc h.b o).grown hgrow (by have := h.b.size; simp; omega) (fun g hg => ownFar h.o hg)
theorem bs_at {L : List (Nat × Bool)} {pre : List (Nat × (Nat × Bool))} {x : Nat × (Nat × Bool)} (h : pre ++ [x] <+: bs L L.length) : pre.length < L.length ∧ x.1 = L.length - 1 - pre.length := by
  have h1 := pre_last h
  have h2 : pre.length < (bs L L.length).length := (List.getElem?_eq_some_iff.1 h1).1
  rw [bs_len] at h2
  refine ⟨h2, ?_⟩
  unfold bs at h1
  rw [List.getElem?_map, List.getElem?_range h2] at h1
  simp only [Option.map_some, Option.some.injEq] at h1
  rw [← h1]

set_option maxRecDepth 100000 in
set_option maxHeartbeats 8000000 in
theorem pProve_ok (s : Nat) (m : Int) (a : Option Addr) (q cap : Nat) (L : List Pl.Wk) (hq : L.length = q) (p : Int) (hV : Pl.VS s m L p) (hfr : (Pl.frd s (Pl.signs L p) == 0) = true) (w : World) (hL : Hid (WksAt w a L)) :
    Calls Tryd.prog 38 #[.agg #[.int .i64 (s : Int), .int .i64 m, .slice a q cap], .int .i64 p] w (PvPost w (Pl.prvW s L p)) := by
  have HC := Lib.hid (cp_ok hV (cap := cap) hq hL)
  have HW := Lib.hid (wf_ok hV (cap := cap) hq hL)
  have hsl := Pl.signs_len L p
  refine (callsIn_wide (n := 7)).1 ?_
  refine callsIn_of_wp_marks Tryd.func38 rfl trivial ?_ rfl
  simp only [Tryd.ntmps38, List.size_toArray, List.length_cons, List.length_nil, Nat.reduceAdd, Nat.reduceSub, Array.replicate_succ, Array.replicate_zero, List.push_toArray, List.append_toArray, List.nil_append, List.cons_append]
  gi_wp2_with fail
  refine ⟨trivial, ?_⟩
  refine (callsIn_wide.2 (HC.out _ (by repeat (first | with_reducible exact Below.refl _ _ | with_reducible assumption | refine below_drewN ?_ _ | refine Below.drew ?_ | refine Below.alloc ?_ (by first | (simp; done) | (simp; omega) | omega) _ | refine Below.setCell ?_ (by first | (simp; done) | (simp; omega) | omega) _ | refine Below.trans ?_ (Below.mono (by assumption) (by first | (simp; done) | (simp; omega) | omega)))))).mono ?_
  rintro e w1 ⟨rfl, hb1⟩
  have k0 : w1.cell? ⟨w.heap.size, 0, none⟩ = some (.int .i64 (s : Int)) := kept1 (by simp [go_sem]) hb1
  have k1 : w1.cell? ⟨w.heap.size, 1, none⟩ = some (.int .i64 m) := kept1 (by simp [go_sem]) hb1
  have k2 : w1.cell? ⟨w.heap.size, 2, none⟩ = some (.slice a q cap) := kept1 (by simp [go_sem]) hb1
  have hbw : Below w.heap.size w w1 := (by repeat (first | with_reducible exact Below.refl _ _ | with_reducible assumption | refine below_drewN ?_ _ | refine Below.drew ?_ | refine Below.alloc ?_ (by first | (simp; done) | (simp; omega) | omega) _ | refine Below.setCell ?_ (by first | (simp; done) | (simp; omega) | omega) _ | refine Below.trans ?_ (Below.mono (by assumption) (by first | (simp; done) | (simp; omega) | omega))))
  clear hb1 HC
  gi_wp2_with fail
  refine ⟨trivial, ?_⟩
  refine (callsIn_wide.2 (HW.out _ hbw)).mono ?_
  rintro e w2 ⟨a1, n1, c1, mb, f, rfl, hn1, hS, hM, hA, hb2⟩
  replace hn1 := Lib.hid hn1
  replace k0 := kept1 k0 hb2
  have hbw2 := hbw.trans (hb2.mono hbw.size)
  have HS0 := Lib.hid (fun (W : World) (hb : Below w2.heap.size w2 W) => signs_after hV hn1.out hS.out hM.out hA.out (cap := c1) W hb)
  clear hbw hb2 HW k1 k2
  gi_upto_region 5 with fail
  have hba := below_alloc (Below.refl w2.heap.size w2) (Obj.cells #[.slice a1 n1 c1, .map (some mb)] 92)
  have z0 : (w2.alloc (Obj.cells #[.slice a1 n1 c1, .map (some mb)] 92)).cell? ⟨w2.heap.size, 0, none⟩ = some (.slice a1 n1 c1) := by simp [go_sem]
  have z1 : (w2.alloc (Obj.cells #[.slice a1 n1 c1, .map (some mb)] 92)).cell? ⟨w2.heap.size, 1, none⟩ = some (.map (some mb)) := by simp [go_sem]
  replace k0 := kept1 k0 hba
  have hS1 := Lib.hid (hS.out.below hba)
  have hM1 : Hid (∃ k, AM (w2.alloc (Obj.cells #[.slice a1 n1 c1, .map (some mb)] 92)) mb k f) := Lib.hid (by obtain ⟨k, h⟩ := hM.out; exact ⟨k, h.below hba⟩)
  have hbw3 := hbw2.trans (hba.mono hbw2.size)
  have HS1 := Lib.hid (HS0.out _ hba)
  clear hba hM hS HS0 hbw2
  generalize w2.alloc (Obj.cells #[.slice a1 n1 c1, .map (some mb)] 92) = X at *
  have hwx0 := block_lt_of_cell z0
  simp only at hwx0
  have hk0X := block_lt_of_cell k0
  simp only at hk0X
  generalize w2.heap.size = wx at *
  clear w2 w1
  gi_wp2_with fail
  refine ⟨trivial, ?_⟩
  refine (callsIn_wide.2 HS1.out).mono ?_
  rintro e w3 ⟨v, rfl, hO⟩
  have hbO := hO.out.b
  have zz0 := z0
  have zz1 := z1
  have hzX := hbO.size
  replace k0 := kept1 k0 hbO
  replace z0 := kept1 z0 hbO
  replace z1 := kept1 z1 hbO
  have hS3 := Lib.hid (hS1.out.below hbO)
  have hM3 : Hid (∃ k, AM w3 mb k f) := Lib.hid (by obtain ⟨k, h⟩ := hM1.out; exact ⟨k, h.below hbO⟩)
  have hbw4 := hbw3.trans (hbO.mono hbw3.size)
  obtain ⟨a3, c3, hv3, hG3⟩ := hO.out.at
  have ho3 := hO.out.o
  obtain ⟨G, hGe⟩ : ∃ G, Pl.signs L p = G := ⟨_, rfl⟩
  have hsg : ∀ g ∈ G, g.1 < 8 := by rw [← hGe]; exact hV.sg
  rw [hGe] at hv3 hG3 ho3 hfr hsl
  subst hv3
  obtain ⟨nG, hnG⟩ : ∃ nG, G.length = nG := ⟨_, rfl⟩
  rw [hnG] at ho3 hsl ⊢
  have hlt3 := ho3.lt
  have HP := Lib.hid (fun (W : World) (hb : Below w3.heap.size w3 W) => proves_any s hV.s1 hV.s6 a3 nG c3 G (Lib.hid hnG) (by omega) (Lib.hid hsg) W (Lib.hid (hG3.below hb)))
  rw [hfr] at HP
  have hX3 := hbO
  have zX0 := Lib.hid zz0
  have zX1 := Lib.hid zz1
  clear hbO hO hbw3 HS1 zz0 zz1
  gi_upto_region 6 with fail
  have hba2 := below_alloc (Below.refl w3.heap.size w3) (Obj.cells #[.slice a3 nG c3] 46)
  have hSG : SGb (w3.alloc (Obj.cells #[.slice a3 nG c3] 46)) w3.heap.size G := ⟨⟨.slice a3 nG c3, by simp [go_sem], by rw [hnG]; exact (ownBase ho3 (Nat.zero_le _)).alloc _, fun e => by have := (hlt3 _ e).2; omega⟩, by simp [go_sem]⟩
  have d8 : (w3.alloc (Obj.cells #[.slice a3 nG c3] 46)).cell? ⟨w3.heap.size, 0, none⟩ = some (.slice a3 nG c3) := by simp [go_sem]
  replace k0 := kept1 k0 hba2
  replace z0 := kept1 z0 hba2
  replace z1 := kept1 z1 hba2
  have hS4 := Lib.hid (hS3.out.below hba2)
  have hM4 : Hid (∃ k, AM (w3.alloc (Obj.cells #[.slice a3 nG c3] 46)) mb k f) := Lib.hid (by obtain ⟨k, h⟩ := hM3.out; exact ⟨k, h.below hba2⟩)
  have ho4 := ho3.alloc (Obj.cells #[.slice a3 nG c3] 46)
  have hbw5 := hbw4.trans (hba2.mono hbw4.size)
  have HP1 := Lib.hid (HP.out _ hba2)
  replace hX3 := hX3.trans (hba2.mono hX3.size)
  have hwx : wx < w3.heap.size := Nat.lt_of_lt_of_le hwx0 hzX
  clear hba2 hS3 hM3 ho3 hbw4 HP
  generalize w3.alloc (Obj.cells #[.slice a3 nG c3] 46) = Y at *
  generalize w3.heap.size = sb at *
  gi_wp2_with fail
  refine ⟨trivial, ?_⟩
  refine (callsIn_wide.2 HP1.out).mono ?_
  rintro e w4 ⟨rfl, hb4⟩
  replace k0 := kept1 k0 hb4
  replace z0 := kept1 z0 hb4
  replace z1 := kept1 z1 hb4
  replace d8 := kept1 d8 hb4
  have hS5 := Lib.hid (hS4.out.below hb4)
  have hM5 : Hid (∃ k, AM w4 mb k f) := Lib.hid (by obtain ⟨k, h⟩ := hM4.out; exact ⟨k, h.below hb4⟩)
  have ho5 := ownBelow ho4 hb4
  have hSG5 := hSG.below hb4
  have hbw6 := hbw5.trans (hb4.mono hbw5.size)
  replace hX3 := hX3.trans (hb4.mono hX3.size)
  clear hb4 hS4 hM4 ho4 hSG hbw5 HP1
  gi_wp2_with fail
  refine ⟨trivial, ?_⟩
  refine (callsIn_wide.2 (backwardS_any a3 nG c3 w4)).mono ?_
  rintro e w5 ⟨rfl, rfl⟩
  have hba3 := below_alloc (Below.refl w4.heap.size w4) (Obj.cells #[.slice a3 nG c3] 46)
  have b0 : (w4.alloc (Obj.cells #[.slice a3 nG c3] 46)).cell? ⟨w4.heap.size, 0, none⟩ = some (.slice a3 nG c3) := by simp [go_sem]
  replace k0 := kept1 k0 hba3
  replace z0 := kept1 z0 hba3
  replace z1 := kept1 z1 hba3
  have hsb := block_lt_of_cell d8
  simp only at hsb
  have hS6 := Lib.hid (hS5.out.below hba3)
  have hM6 : Hid (∃ k, AM (w4.alloc (Obj.cells #[.slice a3 nG c3] 46)) mb k f) := Lib.hid (by obtain ⟨k, h⟩ := hM5.out; exact ⟨k, h.below hba3⟩)
  have ho6 := Lib.hid (ownBelow ho5 hba3)
  have hSG6 := Lib.hid (hSG5.below hba3)
  have hbw7 := hbw6.trans (hba3.mono hbw6.size)
  replace hX3 := hX3.trans (hba3.mono hX3.size)
  have hz2 : sb < (w4.alloc (Obj.cells #[.slice a3 nG c3] 46)).heap.size := by simp; omega
  clear hba3 hS5 hM5 ho5 hSG5 hbw6 d8
  generalize w4.alloc (Obj.cells #[.slice a3 nG c3] 46) = Z at *
  generalize w4.heap.size = bb at *
  gi_wp2_with fail
  refine range_nextV (enc := bsV) (n := 7) (hps := fun _ => rfl) (by omega) (gf := 92) (lb := #[.pointer (some ⟨bb, 0, none⟩)]) rfl (enters_of Tryd.func92 (by kernel_rfl) rfl)
    (backwardS_hands 6 (by omega) bb nG c3 a3 G hnG (by omega) Z) (Below.refl _ _)
    (KP Z sb (fun G => Pl.frd s G == 0) G) (fun _ _ => False) (kp_own Z _ sb rfl hz2 _ G) (fun _ _ _ _ h _ _ => h) ?keep ⟨But.refl _ _, hSG6.out⟩ ?a1 ?assign ?body ?done ?stop
  case keep =>
    rintro pre W ⟨hB, _⟩
    refine ⟨hB.kept b0 (fun e => by simp only at e; omega), ?_⟩
    have ho7 := ownBut ho6.out hB (fun g hg e => by have := (hlt3 g hg).2; omega)
    rw [← hnG] at ho7
    obtain ⟨a9, c9, e9, h9⟩ := sgs_of_owns rfl ho7
    simp only [Value.slice.injEq] at e9
    obtain ⟨rfl, _, _⟩ := e9
    exact h9
  case assign =>
    intro l x W K' hK'
    simp only [bsV, sgV] at hK' ⊢
    gi_wp2
    exact hK'
  case stop => exact fun _ _ _ _ _ h _ => h.elim
  case body =>
    rintro l pre ⟨i, g⟩ W ⟨hB, hSG⟩ hpre
    obtain ⟨hlt, hx⟩ := bs_at hpre
    simp only at hx
    rw [hnG] at hlt hx
    have hpl := Pl.prd_len (fun G => Pl.frd s G == 0) G pre.length (by omega)
    rw [hnG] at hpl
    have hpm := Pl.prd_mem (fun G => Pl.frd s G == 0) G pre.length
    have hps : Pl.prd (fun G => Pl.frd s G == 0) G (pre.length + 1) = if (Pl.frd s ((Pl.prd (fun G => Pl.frd s G == 0) G pre.length).eraseIdx i) == 0) = true then (Pl.prd (fun G => Pl.frd s G == 0) G pre.length).eraseIdx i else Pl.prd (fun G => Pl.frd s G == 0) G pre.length := by
      rw [hx, ← hnG]
      rfl
    have hil0 : i + 1 + pre.length = nG := by omega
    replace hx := Lib.hid hx
    have hsnoc : (pre ++ [(i, g)]).length = pre.length + 1 := by simp
    obtain ⟨cur, hcur⟩ : ∃ cur, Pl.prd (fun G => Pl.frd s G == 0) G pre.length = cur := ⟨_, rfl⟩
    rw [hcur] at hpl hpm hps hSG
    obtain ⟨v, d, o, nv⟩ := hSG.v
    obtain ⟨lc, hlc⟩ : ∃ lc, cur.length = lc := ⟨_, rfl⟩
    rw [hlc] at o hpl
    obtain ⟨av, cv, hv, hcs, hcn⟩ := cs_of_owns o
    subst hv
    have hil : i < lc := by omega
    have hcv : lc ≤ cv := by
      rcases o.2 with ⟨hv, h0⟩ | ⟨g', cap', cur', hv, _, _, hle, _⟩
      · omega
      · simp only [Value.slice.injEq] at hv
        obtain ⟨_, _, rfl⟩ := hv
        exact hle
    have hcap : cv ≤ maxLen := by
      rcases o.2 with ⟨hv, h0⟩ | ⟨g', cap', cur', hv, _, _, hle, hcm, _⟩
      · omega
      · simp only [Value.slice.injEq] at hv
        obtain ⟨_, _, rfl⟩ := hv
        exact hcm
    unfold maxLen at hcap
    obtain ⟨x, rfl⟩ : ∃ x, av = some x := by
      cases av with
      | none =>
        have := hcs.none
        have h2 := congrArg List.length this
        rw [sgCells_len] at h2
        simp at h2
        omega
      | some x => exact ⟨x, rfl⟩
    have i0 : (0 : Int) ≤ (i : Int) := by omega
    have i1 : (i : Int) ≤ (cv : Int) := by omega
    have i2 : (i : Int) + 1 ≤ (lc : Int) := by omega
    have i3 : (0 : Int) ≤ (i : Int) + 1 := by omega
    have hw1 : IntKind.i64.wrap ((i : Int) + 1) = (i : Int) + 1 := by rw [IntWalk.i64_left]; exact IntWalk.wrap64_in _ (by omega)
    gi_wp2_with fail
    have S0 : W.drew.cell? ⟨sb, 0, none⟩ = some (.slice (some x) lc cv) := d
    refine held_round (fun w' => w'.cell? ⟨sb, 0, none⟩ = some (.slice (some x) lc cv)) (fun ⟨_, _, h⟩ => h) rfl (by kernel_rfl) S0 (fun hHeld => ?_)
    have ht1 : ((i : Int) + 1).toNat = i + 1 := by omega
    refine wpAnyH_take (i := 0) (v := ?_) rfl (by kernel_rfl) (by kernel_rfl) (by kernel_rfl) (fun _ _ _ h => h) (Or.inl ⟨by rfl, ?_⟩) (by assumption) ?_
    rotate_left 1
    · (intro w hSw; (try dsimp only at hSw); go_simp; all_goals with_reducible rfl)
    try simp only [Act.put, List.setIfInBounds_toArray, List.set_cons_zero, List.set_cons_succ]
    refine wpAnyH_take (i := 1) (v := ?_) rfl (by kernel_rfl) (by kernel_rfl) (by kernel_rfl) (fun _ _ _ h => h) (Or.inl ⟨by rfl, ?_⟩) (by assumption) ?_
    rotate_left 1
    · (intro w hSw; (try dsimp only at hSw); go_simp; all_goals with_reducible rfl)
    try simp only [Act.put, List.setIfInBounds_toArray, List.set_cons_zero, List.set_cons_succ]
    refine wpAnyH_take (i := 2) (v := ?_) rfl (by kernel_rfl) (by kernel_rfl) (by kernel_rfl) (fun _ _ _ h => h) (Or.inl ⟨by rfl, ?_⟩) (by assumption) ?_
    rotate_left 1
    · (intro w hSw; (try dsimp only at hSw); go_simp; all_goals with_reducible rfl)
    try simp only [Act.put, List.setIfInBounds_toArray, List.set_cons_zero, List.set_cons_succ]
    refine wpAnyH_take (i := 3) (v := ?_) rfl (by kernel_rfl) (by kernel_rfl) (by kernel_rfl) (fun _ _ _ h => h) (Or.inl ⟨by rfl, ?_⟩) (by assumption) ?_
    rotate_left 1
    · (intro w hSw; (try dsimp only at hSw); go_simp; all_goals with_reducible rfl)
    try simp only [Act.put, List.setIfInBounds_toArray, List.set_cons_zero, List.set_cons_succ]
    refine wpAnyH_take (i := 4) (v := ?_) rfl (by kernel_rfl) (by kernel_rfl) (by kernel_rfl) (fun _ _ _ h => h) (Or.inl ⟨by rfl, ?_⟩) (by assumption) ?_
    rotate_left 1
    · (intro w hSw; (try dsimp only at hSw); go_simp; all_goals with_reducible rfl)
    try simp only [Act.put, List.setIfInBounds_toArray, List.set_cons_zero, List.set_cons_succ]
    refine wpAnyH_take (i := 5) (v := ?_) rfl (by kernel_rfl) (by kernel_rfl) (by kernel_rfl) (fun _ _ _ h => h) (Or.inl ⟨by rfl, ?_⟩) (by assumption) ?_
    rotate_left 1
    · (intro w hSw; (try dsimp only at hSw); go_simp; all_goals with_reducible rfl)
    try simp only [Act.put, List.setIfInBounds_toArray, List.set_cons_zero, List.set_cons_succ]
    refine wpAnyH_take (i := 6) (v := ?_) rfl (by kernel_rfl) (by kernel_rfl) (by kernel_rfl) (fun _ _ _ h => h) (Or.inl ⟨by rfl, ?_⟩) (by assumption) ?_
    rotate_left 1
    · (intro w hSw; (try dsimp only at hSw); go_simp; all_goals with_reducible rfl)
    try simp only [Act.put, List.setIfInBounds_toArray, List.set_cons_zero, List.set_cons_succ]
    simp only [List.getElem_toArray, List.getElem_cons_succ, List.getElem_cons_zero, Act.put, List.setIfInBounds_toArray, List.set_cons_zero, List.set_cons_succ]
    generalize hb2 : (if cv = i + 1 then some x else some (x.add ((i + 1) * 2))) = b2
    have hbD : Below W.heap.size W (W.alloc (Obj.cells #[.slice (some x) i cv, .slice b2 (lc - (i + 1)) (cv - (i + 1))] 46)).drew := (below_alloc (Below.refl W.heap.size W) (Obj.cells #[.slice (some x) i cv, .slice b2 (lc - (i + 1)) (cv - (i + 1))] 46)).drew
    have d0 : (W.alloc (Obj.cells #[.slice (some x) i cv, .slice b2 (lc - (i + 1)) (cv - (i + 1))] 46)).drew.cell? ⟨W.heap.size, 0, none⟩ = some (.slice (some x) i cv) := by simp [go_sem]
    have d1 : (W.alloc (Obj.cells #[.slice (some x) i cv, .slice b2 (lc - (i + 1)) (cv - (i + 1))] 46)).drew.cell? ⟨W.heap.size, 1, none⟩ = some (.slice b2 (lc - (i + 1)) (cv - (i + 1))) := by simp [go_sem]
    have hcsD := hcs.below hbD
    have hcell : cur.take i ++ cur.drop (i + 1) = cur.eraseIdx i := (List.eraseIdx_eq_take_drop_succ cur i).symm
    have hsplit : sgCells cur = sgCells (cur.take i) ++ sgCells (cur.drop i) := by rw [← sgCells_append, List.take_append_drop]
    have hsplit2 : sgCells cur = sgCells (cur.take (i + 1)) ++ sgCells (cur.drop (i + 1)) := by rw [← sgCells_append, List.take_append_drop]
    have hl1 : (sgCells (cur.take i)).length = i * 2 := by rw [sgCells_len, List.length_take]; omega
    have hl1' : (sgCells (cur.take (i + 1))).length = (i + 1) * 2 := by rw [sgCells_len, List.length_take]; omega
    have hl2 : (sgCells (cur.drop (i + 1))).length = (lc - (i + 1)) * 2 := by rw [sgCells_len, List.length_drop]; omega
    have hA1 : CsAt (W.alloc (Obj.cells #[.slice (some x) i cv, .slice b2 (lc - (i + 1)) (cv - (i + 1))] 46)).drew (some x) (sgCells (cur.take i)) := fun j u hu => hcsD j u (by
      rw [hsplit, List.getElem?_append_left (List.getElem?_eq_some_iff.1 hu).1]
      exact hu)
    have hA2 : CsAt (W.alloc (Obj.cells #[.slice (some x) i cv, .slice b2 (lc - (i + 1)) (cv - (i + 1))] 46)).drew b2 (sgCells (cur.drop (i + 1))) := fun j u hu => by
      have hj := (List.getElem?_eq_some_iff.1 hu).1
      rw [hl2] at hj
      have hne : ¬ cv = i + 1 := by omega
      rw [if_neg hne] at hb2
      subst hb2
      obtain ⟨y, hy, hc⟩ := hcsD ((i + 1) * 2 + j) u (by
        rw [hsplit2, List.getElem?_append_right (by omega), hl1', Nat.add_sub_cancel_left]
        exact hu)
      obtain rfl := Option.some.inj hy
      refine ⟨_, rfl, ?_⟩
      have e1 : (x.add ((i + 1) * 2)).add j = x.add ((i + 1) * 2 + j) := by
        unfold Addr.add
        by_cases hj0 : j = 0
        · subst hj0; simp
        · rw [if_neg hj0, if_neg (by omega), if_neg (by omega)]
          simp only [Addr.mk.injEq, true_and, and_true]
          omega
      rw [e1]
      exact hc
    have hb2n : b2 = none → cv - (i + 1) = 0 := fun e => by
      by_cases h9 : cv = i + 1
      · omega
      · rw [if_neg h9] at hb2
        rw [← hb2] at e
        cases e
    have hone : ∀ l : List (Nat × Bool), ∀ u ∈ sgCells l, u.oneCell' = true := fun l u hu => by
      unfold sgCells at hu
      obtain ⟨g, _, h⟩ := List.mem_flatMap.1 hu
      simp at h
      rcases h with rfl | rfl <;> rfl
    have HCc := Lib.hid (concatSg_any W.heap.size (some x) b2 i (lc - (i + 1)) cv (cv - (i + 1)) (by omega) (by omega) (sgCells (cur.take i)) (sgCells (cur.drop (i + 1))) (Lib.hid hl1) (Lib.hid hl2) (Lib.hid (hone _)) (Lib.hid (hone _)) (Lib.hid (fun e => by cases e)) (Lib.hid hb2n) _ (Lib.hid hA1) (Lib.hid hA2) d0 d1)
    rw [← sgCells_append, hcell] at HCc
    have S7 : (W.alloc (Obj.cells #[.slice (some x) i cv, .slice b2 (lc - (i + 1)) (cv - (i + 1))] 46)).drew.cell? ⟨sb, 0, none⟩ = some (.slice (some x) lc cv) := kept1 d hbD
    have hSG7 := Lib.hid (hSG.below hbD)
    have hB7 := Lib.hid (hB.trans (.of_below hbD))
    have hk7 : KeepsOthers W (W.alloc (Obj.cells #[.slice (some x) i cv, .slice b2 (lc - (i + 1)) (cv - (i + 1))] 46)).drew := ⟨hbD.size, fun k o hk _ => (hbD.block k (Array.getElem?_eq_some_iff.1 hk).1).trans hk⟩
    clear d0 d1 hcsD hcs hsplit hsplit2 hl1 hl1' hA1 hA2 hb2n hone hbD o hSG d hB
    refine wpAnyH_ready (rs := [7]) (by kernel_rfl) (by simp) ?_
    refine AllReadyH.cons rfl (fun K hK => ?_) ?_
    rotate_left 1
    · exact AllReadyH.nil
    go_simp
    refine hK.out _ _ S7 (fun hHeld7 => ?_)
    clear hK K
    try simp only [List.getElem_toArray, List.getElem_cons_succ, List.getElem_cons_zero, Act.put, List.setIfInBounds_toArray, List.set_cons_zero, List.set_cons_succ]
    generalize (W.alloc (Obj.cells #[.slice (some x) i cv, .slice b2 (lc - (i + 1)) (cv - (i + 1))] 46)).drew = V at *
    refine wpAnyH_ready (rs := [8]) (by kernel_rfl) (by simp) ?_
    refine AllReadyH.cons rfl (fun K hK => ?_) ?_
    rotate_left 1
    · exact AllReadyH.nil
    go_simp
    with_reducible refine (HCc.out).mono ?_
    rintro e w6 ⟨v6, he, ho7, hb6⟩
    subst he
    have S8 : w6.cell? ⟨sb, 0, none⟩ = some (.slice (some x) lc cv) := kept1 S7 hb6
    refine hK.out _ _ S8 (fun hHeld8 => ?_)
    clear hK K
    try simp only [List.getElem_toArray, List.getElem_cons_succ, List.getElem_cons_zero, Act.put, List.setIfInBounds_toArray, List.set_cons_zero, List.set_cons_succ]
    refine wpAnyH_take (i := 9) (v := ?_) rfl (by kernel_rfl) (by kernel_rfl) (by kernel_rfl) (fun _ _ _ h => h) (Or.inl ⟨by rfl, ?_⟩) (by assumption) ?_
    rotate_left 1
    · (intro w hSw; (try dsimp only at hSw); go_simp; all_goals with_reducible rfl)
    try simp only [Act.put, List.setIfInBounds_toArray, List.set_cons_zero, List.set_cons_succ]
    simp only [List.getElem_toArray, List.getElem_cons_succ, List.getElem_cons_zero, Act.put, List.setIfInBounds_toArray, List.set_cons_zero, List.set_cons_succ]
    refine wpAnyH_done (by kernel_rfl) ?_ _
    have hln : (cur.eraseIdx i).length = i + (lc - (i + 1)) := by rw [List.length_eraseIdx_of_lt (by omega), hlc]; omega
    obtain ⟨nl, hnl⟩ : ∃ nl, i + (lc - (i + 1)) = nl := ⟨_, rfl⟩
    rw [hnl] at ho7 hln
    obtain ⟨a6, c6, rfl, hG6⟩ := sgs_of_owns hln ho7.out
    have hnl2 : nl ≤ 1000 := by omega
    have hVsz : sb < V.heap.size := block_lt_of_cell S7
    have hSG8 := Lib.hid (hSG7.out.below hb6)
    have hB8 := Lib.hid (hB7.out.trans (.of_below hb6))
    have hk8 := hk7.trans ⟨hb6.size, fun k o hk _ => (hb6.block k (Array.getElem?_eq_some_iff.1 hk).1).trans hk⟩
    have k08 : w6.cell? ⟨w.heap.size, 0, none⟩ = some (.int .i64 (s : Int)) := hB8.out.kept k0 (fun e => by simp only at e; omega)
    have hsub : ∀ g ∈ cur.eraseIdx i, g.1 < 8 := fun g hg => hsg g (hpm g (List.mem_of_mem_eraseIdx hg))
    have HPv := Lib.hid (proves_any s hV.s1 hV.s6 a6 nl c6 (cur.eraseIdx i) (Lib.hid hln) hnl2 (Lib.hid hsub) w6 (Lib.hid hG6))
    have hfar : ∀ e : (Value.slice a6 nl c6).ownBlock = some sb, False := fun e => by have := ownFar ho7.out e; omega
    have ho8 := ownBase ho7.out (Nat.zero_le _)
    clear S0 S7 S8 hHeld hHeld7 hHeld8 hb6 ho7 hSG7 hB7 hk7 HCc hG6 hcell hl2 hb2
    cases hfb : (Pl.frd s (cur.eraseIdx i) == 0)
    · rw [hfb] at HPv
      rw [if_neg (by rw [hfb]; decide)] at hps
      gi_wp2_with fail
      refine ⟨trivial, ?_⟩
      refine (CallsIn.inRound _ (callsIn_wide.2 HPv.out)).mono ?_
      rintro e w7 ⟨rfl, hb7⟩
      have hk9 := hk8.trans ⟨hb7.size, fun k o hk _ => (hb7.block k (Array.getElem?_eq_some_iff.1 hk).1).trans hk⟩
      have hfin : KP Z sb (fun G => Pl.frd s G == 0) G (pre ++ [(i, g)]) w7 := ⟨hB8.out.trans (.of_below hb7), by rw [hsnoc, hps]; exact hSG8.out.below hb7⟩
      clear hB8 hSG8 HPv hb7 ho8 k08
      gi_wp2
      exact ⟨hk9.from _, hk9.walks⟩
    · rw [hfb] at HPv
      rw [if_pos (by rw [hfb])] at hps
      gi_wp2_with fail
      refine ⟨trivial, ?_⟩
      refine (CallsIn.inRound _ (callsIn_wide.2 HPv.out)).mono ?_
      rintro e w7 ⟨rfl, hb7⟩
      have hSG9 := hSG8.out.below hb7
      have ho9 := ownBelow ho8 hb7
      rw [← hln] at ho9
      have hput := hSG9.put ho9 (fun e => hfar (by rw [hln] at e; exact e))
      rw [hln] at hput
      obtain ⟨v9, d9, _, _⟩ := hSG9.v
      have f9 := hSG9.f
      have hk9 := (hk8.trans ⟨hb7.size, fun k o hk _ => (hb7.block k (Array.getElem?_eq_some_iff.1 hk).1).trans hk⟩).trans (KeepsOthers.setCell w7 ⟨sb, 0, none⟩ (.slice a6 nl c6))
      have hfin : KP Z sb (fun G => Pl.frd s G == 0) G (pre ++ [(i, g)]) (w7.setCell ⟨sb, 0, none⟩ (.slice a6 nl c6)) := ⟨(hB8.out.trans (.of_below hb7)).setCell (p := ⟨sb, 0, none⟩) (.inr rfl) _, by rw [hsnoc, hps]; exact hput⟩
      clear hB8 hSG8 HPv hb7 ho8 k08 hSG9 ho9 hput
      gi_wp2
      exact ⟨hk9.from _, hk9.walks⟩
  case done =>
    rintro E W hE ⟨hB, hSG⟩ hD
    rw [bs_len] at hSG
    have hXW := hX3.trans (hB.below (B := X.heap.size) hX3.size (fun k hk e => by omega))
    obtain ⟨FS, hFS⟩ : ∃ FS, Pl.prd (fun G => Pl.frd s G == 0) G G.length = FS := ⟨_, rfl⟩
    rw [hFS] at hSG
    have hFm : ∀ g ∈ FS, g ∈ Pl.signs L p := fun g hg => by rw [hGe]; rw [← hFS] at hg; exact Pl.prd_mem _ _ _ g hg
    have hFl : FS.length ≤ 16 := by rw [← hFS]; exact Nat.le_trans (Pl.prd_len _ _ _ (Nat.le_refl _)).2 (by rw [hnG]; exact hsl)
    have hPW : Pl.prvW s L p = FS.map (Pl.wlk L p) := by unfold Pl.prvW; rw [hGe, hFS]
    replace hPW := Lib.hid hPW
    obtain ⟨v0, d0, of0, _⟩ := hSG.v
    obtain ⟨lf, hlf⟩ : ∃ lf, FS.length = lf := ⟨_, rfl⟩
    rw [hlf] at of0 hFl
    obtain ⟨af, cf, hvf, hGf⟩ := sgs_of_owns hlf of0
    subst hvf
    have hEs : E < W.heap.size := (Array.getElem?_eq_some_iff.1 hD).1
    have hbW := hbw7.trans (hB.below (B := w.heap.size) hbw7.size (fun k hk e => by omega))
    have hEX : w.heap.size ≤ E := Nat.le_trans hbw7.size hE
    replace hFm := Lib.hid hFm
    replace hGf := Lib.hid hGf
    replace hD := Lib.hid hD
    clear hB hSG of0 hFS hS6 hM6 ho6 hSG6 z0 z1 k0 b0
    have hPL : Hid (PvL W W (.slice none 0 0) 0 (FS.map (Pl.wlk L p)) []) := Lib.hid ⟨World.ownsRow_nil _ _ _ _, rfl, fun i hi => by omega, Below.refl _ _⟩
    have hB0 := Pl.ways_ok hV.m6 hV.ok ⟨hV.p0, hV.pm⟩
    have hR0 := hB0.hd
    have hRl0 := (List.getElem?_eq_some_iff.1 hR0).1
    obtain ⟨x, rfl, hx0, hx1, hx2⟩ := hS1.out 0 (Pl.start p) (by rw [List.getElem?_map, hR0]; rfl)
    obtain ⟨kk, hM0⟩ := hM1.out
    have hRlen : Hid ((Pl.ways L p).length ≤ 96 ∧ ∀ e ∈ Pl.ways L p, e.2.length ≤ 96) := Lib.hid ⟨Pl.bf_len hV.m6 hV.ok ⟨hV.p0, hV.pm⟩ hB0, fun e he => by
      have h1 := ways_lens he
      have h2 := Pl.bf_len hV.m6 hV.ok ⟨hV.p0, hV.pm⟩ hB0
      omega⟩
    have hKS : Hid (∀ e ∈ Pl.ways L p, KS e.1) := Lib.hid (fun e he => by
      have h := Pl.bf_in hV.ok ⟨hV.p0, hV.pm⟩ hB0 he
      have := hV.m6
      exact ⟨⟨h.1.1, by omega⟩, h.2⟩)
    have HCl := Lib.hid (fun (t : Nat) (mm : Bool) (hg : (t, mm) ∈ Pl.signs L p) (V : World) (hb : Below X.heap.size X V) => closed_any x n1 c1 mb kk (by have := hn1.out; omega) f p t mm (Pl.ways L p) L _ (Lib.hid hB0) hA hKS hRlen (Pl.wlk L p (t, mm)) (Lib.hid (Pl.wlk_in hg)) V (kept1 hx0 hb) (kept1 hx1 hb) (kept1 hx2 hb) (hM0.below hb))
    obtain ⟨i0, hi, hz0', hz1', hz2'⟩ := info_parts infoInts
    clear hB0 hR0 hx0 hx1 hx2 hM0 hKS hRlen
    gi_wp2
    gi_loopw [50, 11] (fun iv v wr => ∃ (k : Nat) (xs : List Value), k ≤ lf ∧ iv = .int .i64 (k : Int) ∧ Hid (PvL W wr v k (FS.map (Pl.wlk L p)) xs)) (fun iv _ _ => lf - (RowKit.intOf iv).toNat)
    case atStart => exact ⟨0, [], Nat.zero_le _, rfl, hPL⟩
    case round =>
      clear hPL
      obtain ⟨k, xs, hk, rfl, hP⟩ := hrel
      by_cases hlt : k < lf
      · have i1 : (k : Int) < (lf : Int) := by omega
        have i2 : (0 : Int) ≤ (k : Int) := by omega
        have hkF : k < FS.length := by omega
        obtain ⟨y, rfl, hc0, hc1⟩ := hGf.out k hkF
        obtain ⟨t, mm, hz⟩ : ∃ t mm, FS.getD k (0, false) = (t, mm) := ⟨_, _, rfl⟩
        have hmem : (t, mm) ∈ Pl.signs L p := hFm.out _ (by rw [← hz, List.getD, List.getElem?_eq_getElem hkF]; exact List.getElem_mem hkF)
        have hWk : Hid ((FS.map (Pl.wlk L p)).getD k [] = Pl.wlk L p (t, mm)) := Lib.hid (by
          rw [List.getD, List.getElem?_map, List.getElem?_eq_getElem hkF]
          rw [List.getD, List.getElem?_eq_getElem hkF] at hz
          have : FS[k] = (t, mm) := hz
          rw [this]
          rfl)
        rw [hz] at hc0 hc1
        simp only at hc0 hc1
        replace hc0 := kept1 hc0 hP.out.b
        replace hc1 := kept1 hc1 hP.out.b
        have hXr := hXW.trans (hP.out.b.mono hXW.size)
        have hba := below_alloc (Below.refl wr.heap.size wr) (Obj.cells #[.int .i64 (t : Int), .bool mm] 70)
        have hXa := hXr.trans (hba.mono hXr.size)
        have HC1 := Lib.hid (HCl.out t mm hmem _ hXa)
        have q0 := kept1 zX0.out hXa
        have q1 := kept1 zX1.out hXa
        have s0 : (wr.alloc (Obj.cells #[.int .i64 (t : Int), .bool mm] 70)).cell? ⟨wr.heap.size, 0, none⟩ = some (.int .i64 (t : Int)) := by simp [go_sem]
        have s1 : (wr.alloc (Obj.cells #[.int .i64 (t : Int), .bool mm] 70)).cell? ⟨wr.heap.size, 1, none⟩ = some (.bool mm) := by simp [go_sem]
        have hP1 := Lib.hid (hP.out.below hba)
        have hvlt := hP.out.o.lt
        clear hXr hba hXa hmem hz hP
        gi_wp2_with fail
        refine ⟨trivial, ?_⟩
        refine (callsIn_wide.2 HC1.out).mono ?_
        rintro e w8 ⟨⟨bn, cn, rfl, hNs, hfr⟩, hb8⟩
        have hP2 := Lib.hid (hP1.out.below hb8)
        obtain ⟨ln, hln⟩ : ∃ ln, (Pl.wlk L p (t, mm)).length = ln := ⟨_, rfl⟩
        rw [hln]
        have o8 := hP2.out.o
        have hbs := hP2.out.b.size
        have hnb : ∀ y, bn = some y → y.block < w8.heap.size ∧ u11.ownBlock ≠ some y.block := fun y e => ⟨(hfr.out y e).2, fun e2 => by have h1 := (hvlt _ e2).2; have h2 := (hfr.out y e).1; simp at h2; omega⟩
        have hmo := Lib.hid (fun (W4 : World) (v' : Value) (o : Obj) => hP2.out.more (W4 := W4) (v' := v') (o := o) (b := bn) (n := ln) (c := cn) (by rw [hWk.out, hln]) (by rw [hWk.out]; exact hNs.out) hnb)
        clear HC1 q0 q1 s0 s1 hc0 hc1 hP1 hnb hvlt hfr hNs hP2 hln
        gi_wp2_with (first
          | (gi_at_builtin; refine wpListIn_append_own_at _ rfl (.tmp 54) (.tmp 58) 50 rfl W.heap.size 22 i0 (.slice none 0 0) 1 24 Tryd.underlying50 hi hz0' hz1' hz2' rfl (by decide) _ _ _ rfl (o8.alloc _) ⟨w8.heap.size, 0, none⟩ 1 1 [.slice bn ln cn] rfl rfl ?c1 ?c2 ?c3 ?c4 ?c5 ?_)
          | fail)
        case c1 =>
          intro j u hj
          match j, hj with
          | 0, hj => simp at hj; subst hj; simp [Addr.add]
        case c2 => intro u hu; simp at hu; subst hu; rfl
        case c3 => unfold maxLen; omega
        case c4 => omega
        case c5 => first | omega | (simp; omega)
        intro v' w9 hown' hgrow hnn hat
        have hP3 := Lib.hid (hmo.out _ _ _ hown' hgrow hat)
        clear hmo hown' hgrow hnn hat o8
        gi_wp2
        go_roundw
        case rel => exact ⟨k + 1, _, by omega, by go_num, hP3⟩
        case measure => first | (simp [RowKit.intOf]; done) | (simp [RowKit.intOf]; omega) | omega
      · obtain rfl : k = lf := by omega
        have i1 : ¬ (k : Int) < (k : Int) := by omega
        have ho := hP.out.o
        obtain ⟨av, cv, rfl, hcs, _⟩ := cs_of_owns ho
        have hEd := (hP.out.b.block _ hEs).trans hD.out
        gi_wp2
        refine leaves_marks [E] _ (by simp) (fun r hr => by simp at hr; subst hr; exact hEd) ?_
        have fb := freed_but [E] wr
        have hne : ∀ g, g ∈ [E] → ∀ o, wr.heap[g]? = some o → o.isCells = false := fun g hg o ho => by
          simp at hg
          subst hg
          rw [hEd] at ho
          obtain rfl := Option.some.inj ho
          rfl
        have hlW : (Pl.prvW s L p).length = k := by rw [hPW.out, List.length_map, hlf]
        refine ⟨_, by simp [results, Tryd.results38, go_sem], av, k, cv, rfl, Lib.hid hlW, Lib.hid (fun i hi2 => ?_), ?_⟩
        · rw [hlW] at hi2
          rw [hPW.out]
          obtain ⟨b, n, c, h1, h2, h3, _⟩ := hP.out.a i hi2
          obtain ⟨z, hz, hc⟩ := hcs i _ h1
          refine ⟨z, b, n, c, hz, fb.kept hc (fun e => ?_), h2, h3.but fb hne⟩
          have hlt := block_lt_of_cell hc
          have h4 := cells_of_cell hc (o := wr.heap[(z.add i).block]) (Array.getElem?_eq_getElem hlt)
          rw [hne _ e _ (Array.getElem?_eq_getElem hlt)] at h4
          cases h4
        · exact hbW.trans ((hP.out.b.mono hbW.size).trans (fb.below (Nat.le_trans hbW.size hP.out.b.size) (fun g hg e => by simp at e; omega)))
end Go.Proofs.YtidcedilfhmllaaDoor
