/- What the claims of layer 3 share, part 25: several texts one behind the other. -/
import Derived.Test.YtidcedilfhmllaaDoorZ19
import Derived.Test.YtidcedilfhmllaaDoorZ13
import Derived.Test.YtidcedilfhmllaaDoorZ14
import Derived.Test.YtidcedilfhmllaaDoorZ08
import Derived.Sort.OwnSortedInts
set_option linter.unusedSimpArgs false
set_option linter.unusedVariables false
/- Contracts of package plate: slices.Reverse of numbers, closed. -/
namespace Go.Proofs.YtidcedilfhmllaaDoor
open Go.RowKit Go.Sort

theorem reverse_any (base : Nat) (v : Value) (l : List Int) (n : Nat) (hn : l.length = n) (hn2 : n ≤ 100000) (w : World) (ho : w.ownsRow base 3 1 v n (l.map fun z => Value.int .i64 z)) :
    Calls Tryd.prog 87 #[v] w fun e w' => e = .returned (.tuple #[]) ∧ (∃ b c, v = .slice b n c ∧ NsAt w' b l.reverse ∧ (∀ y, b = some y → base ≤ y.block ∧ y.block < w'.heap.size)) ∧ Below base w w' := by
  obtain ⟨hl, h2⟩ := ho
  rcases h2 with ⟨hv, h0⟩ | ⟨g, cap, cur, hv, hb, hg, hle, hcm, hs, ht⟩
  · subst hv
    subst h0
    obtain rfl : l = [] := List.length_eq_zero_iff.1 hn
    refine (Tryd.slices_Reverse_int_empty none 0 w).mono ?_
    rintro e w' ⟨rfl, rfl⟩
    exact ⟨rfl, ⟨none, 0, rfl, fun k hk => by simp at hk, fun y e => by cases e⟩, Below.refl _ _⟩
  · subst hv
    have hc : ∀ j, j < n → w.cell? ⟨g, j, none⟩ = some (.int .i64 (l.toArray[j]!)) ∧ w.frozen? ⟨g, j, none⟩ = false := fun j hj => by
      have e : cur[j]? = some (.int .i64 (l.toArray[j]!)) := by
        have h1 : (List.take (n * 1) cur.toList)[j]? = (l.map fun z => Value.int .i64 z)[j]? := by rw [ht]
        rw [List.getElem?_take_of_lt (by omega), Array.getElem?_toList, List.getElem?_map, List.getElem?_eq_getElem (by omega)] at h1
        rw [h1, getElem!_pos l.toArray j (by simpa using (by omega : j < l.length))]
        simp
      exact ⟨by simp [World.cell?, hg, e], by simp [World.frozen?, hg]⟩
    have hH : Holds (Value.int .i64) w g 0 l.toArray := fun j hj => by
      rw [Nat.zero_add]
      exact hc j (by simpa [hn] using hj)
    have H := Tryd.slices_Reverse_int g 0 cap l w hH (by omega)
    rw [hn] at H
    refine H.mono ?_
    rintro e w' ⟨rfl, k, rfl⟩
    have hgr := grownBy_sortedI (w := w) (g := g) (n := k) (os := #[]) l.reverse.toArray
    rw [grow_empty] at hgr
    have hH2 := holds_putRow (Value.int .i64) (Sort.ahead w k) g 0 l.toArray l.reverse.toArray hH (by simp)
    refine ⟨rfl, ⟨_, cap, rfl, fun j hj => ⟨_, rfl, ?_⟩, fun y e => by obtain rfl := Option.some.inj e; exact ⟨hb, Nat.lt_of_lt_of_le (Array.getElem?_eq_some_iff.1 hg).1 hgr.size⟩⟩, (Below.refl base w).grown hgr (by have := (Array.getElem?_eq_some_iff.1 hg).1; omega) (fun r hr => by obtain rfl := Option.some.inj hr; exact hb)⟩
    have h := (hH2 j (by simpa using hj)).1
    have e1 : (⟨g, 0, none⟩ : Addr).add j = ⟨g, j, none⟩ := by unfold Addr.add; split <;> simp_all
    rw [e1]
    rw [Nat.zero_add] at h
    rw [h, getElem!_pos l.reverse.toArray j (by simpa using hj)]
    simp [List.getD, List.getElem?_eq_getElem hj]

/-- the box of the state that a walk is followed back from -/
theorem st_cells {W : World} {b : Nat} {y : Pl.St} (h : SA W b y) : W.cell? ⟨b, 0, none⟩ = some (.int .i64 y.p) ∧ W.cell? ⟨b, 1, none⟩ = some (.int .i64 (y.t : Int)) ∧ W.cell? ⟨b, 2, none⟩ = some (.bool y.m) ∧ (∀ i, W.frozen? ⟨b, i, none⟩ = false) := by
  have e0 := h.cell (i := 0) (by omega)
  have e1 := h.cell (i := 1) (by omega)
  have e2 := h.cell (i := 2) (by omega)
  simp only [if_true, if_false, Nat.succ_ne_self, Nat.reduceEqDiff] at e0 e1 e2
  exact ⟨e0, e1, e2, fun i => h.frozen i⟩

/-- the world in closed -/
structure CD (w W : World) (x : Addr) (n cap mb tb : Nat) (u : List Int) (v : Value) (z : Pl.St) : Prop where
  c0 : W.cell? ⟨w.heap.size, 0, none⟩ = some (.slice (some x) n cap)
  c1 : W.cell? ⟨w.heap.size, 1, none⟩ = some (.map (some mb))
  o : W.ownsRow (w.heap.size + 2) 3 1 v u.length (u.map fun z => Value.int .i64 z)
  s : SA W tb z
  t : w.heap.size + 2 ≤ tb
  vt : v.ownBlock ≠ some tb
  b : Below w.heap.size w W
def slen : Value → Nat
  | .slice _ n _ => n
  | _ => 0
theorem CD.below {w W W' : World} {x : Addr} {n cap mb tb : Nat} {u : List Int} {v : Value} {z : Pl.St} (h : CD w W x n cap mb tb u v z) (hb : Below W.heap.size W W') : CD w W' x n cap mb tb u v z :=
  ⟨kept1 h.c0 hb, kept1 h.c1 hb, ownBelow h.o hb, h.s.below hb, h.t, h.vt, h.b.trans (hb.mono h.b.size)⟩

set_option maxRecDepth 100000 in
set_option maxHeartbeats 8000000 in
theorem closed_any (x : Addr) (n cap mb kk : Nat) (hn : 0 < n) (f : Pl.St → Option (Pl.St × Int)) (p : Int) (t : Nat) (m : Bool) (R : List (Pl.St × List Int)) (L : List Pl.Wk) (i : Nat) (hF : Hid (Pl.Bf (Pl.adv L) (Pl.stps L.length) (Pl.start p) i R)) (hA : Hid (Pl.AccF R f)) (hK : Hid (∀ e ∈ R, KS e.1)) (hRl : Hid (R.length ≤ 96 ∧ ∀ e ∈ R, e.2.length ≤ 96)) (w0 : List Int) (hw0 : Hid ((⟨p, t, m⟩, w0) ∈ R)) (w : World)
    (hx0 : w.cell? (x.add 0) = some (.int .i64 p)) (hx1 : w.cell? ⟨(x.add 0).block, (x.add 0).off + 1, none⟩ = some (.int .i64 0)) (hx2 : w.cell? ⟨(x.add 0).block, (x.add 0).off + 2, none⟩ = some (.bool false)) (hM : AM w mb kk f) :
    Calls Tryd.prog 66 #[.agg #[.slice (some x) n cap, .map (some mb)], .agg #[.int .i64 (t : Int), .bool m]] w fun e w' => (∃ b c, e = .returned (.slice b w0.length c) ∧ Hid (NsAt w' b w0) ∧ Hid (∀ y, b = some y → w.heap.size ≤ y.block ∧ y.block < w'.heap.size)) ∧ Below w.heap.size w w' := by
  obtain ⟨i0, hi, hz0, hz1, hz2⟩ := info_parts infoI64
  have hxe : x.add 0 = x := by unfold Addr.add; simp
  have HE := fun (W : World) (h : W.cell? x = some (.int .i64 p)) => pEnd_any x n cap mb hn p t m W h
  unfold waV stV at HE
  replace HE := Lib.hid HE
  have HQ := Lib.hid run_neq_st
  go_enter Tryd.func66, Tryd.ntmps66
  go_upto_region 2 with fail
  have c0 : ((w.alloc (Obj.cells #[.slice (some x) n cap, .map (some mb)] 92)).alloc (Obj.cells #[.int .i64 (t : Int), .bool m] 70)).cell? ⟨w.heap.size, 0, none⟩ = some (.slice (some x) n cap) := by simp [go_sem]
  have c1 : ((w.alloc (Obj.cells #[.slice (some x) n cap, .map (some mb)] 92)).alloc (Obj.cells #[.int .i64 (t : Int), .bool m] 70)).cell? ⟨w.heap.size, 1, none⟩ = some (.map (some mb)) := by simp [go_sem]
  have s0 : ((w.alloc (Obj.cells #[.slice (some x) n cap, .map (some mb)] 92)).alloc (Obj.cells #[.int .i64 (t : Int), .bool m] 70)).cell? ⟨w.heap.size + 1, 0, none⟩ = some (.int .i64 (t : Int)) := by simp [go_sem]
  have s1 : ((w.alloc (Obj.cells #[.slice (some x) n cap, .map (some mb)] 92)).alloc (Obj.cells #[.int .i64 (t : Int), .bool m] 70)).cell? ⟨w.heap.size + 1, 1, none⟩ = some (.bool m) := by simp [go_sem]
  have hv : Below w.heap.size w ((w.alloc (Obj.cells #[.slice (some x) n cap, .map (some mb)] 92)).alloc (Obj.cells #[.int .i64 (t : Int), .bool m] 70)) := below_alloc (below_alloc (Below.refl _ _) _) _
  have hz : ((w.alloc (Obj.cells #[.slice (some x) n cap, .map (some mb)] 92)).alloc (Obj.cells #[.int .i64 (t : Int), .bool m] 70)).heap.size = w.heap.size + 2 := by simp
  generalize (w.alloc (Obj.cells #[.slice (some x) n cap, .map (some mb)] 92)).alloc (Obj.cells #[.int .i64 (t : Int), .bool m] 70) = X at *
  have y0 := kept1 hx0 hv
  have y1 := kept1 hx1 hv
  have y2 := kept1 hx2 hv
  have hM1 := hM.below hv
  go_wp2_with fail
  refine (HE.out X (by rw [← hxe]; exact y0)).mono ?_
  rintro e w2 ⟨rfl, hb2⟩
  have hb2' := hv.trans (hb2.mono hv.size)
  have hz2 : w.heap.size + 2 ≤ w2.heap.size := by have := hb2.size; omega
  have hCD : Hid (CD w (w2.alloc (Obj.cells #[.int .i64 p, .int .i64 (t : Int), .bool m] 111)) x n cap mb w2.heap.size [] (.slice none 0 0) ⟨p, t, m⟩) := Lib.hid ⟨cell_alloc (kept1 c0 hb2) _, cell_alloc (kept1 c1 hb2) _, World.ownsRow_nil _ _ _ _, sa_new w2 ⟨p, t, m⟩, hz2, (fun e => by cases e), below_alloc hb2' _⟩
  clear c0 c1 s0 s1 hv hz y0 y1 y2 hM1 hb2 hb2' HE
  go_wp2
  generalize w2.alloc (Obj.cells #[.int .i64 p, .int .i64 (t : Int), .bool m] 111) = X0 at *
  generalize w2.heap.size = tb0 at *
  clear w2
  go_loopw [5, 6] (fun v tp wr => ∃ (z : Pl.St) (u v1 : List Int) (tb : Nat), tp = .pointer (some ⟨tb, 0, none⟩) ∧ Hid ((z, v1) ∈ R) ∧ Hid (w0 = v1 ++ u) ∧ Hid (CD w wr x n cap mb tb u.reverse v z)) (fun v _ _ => 97 - slen v)
  case atStart => exact ⟨⟨p, t, m⟩, [], w0, tb0, rfl, hw0, Lib.hid (by simp), hCD⟩
  case round =>
    clear hCD hz2
    clear X0 tb0
    obtain ⟨⟨zp, zt, zm⟩, u, v1, tb, rfl, hmem, hwu, hC⟩ := hrel
    have hb := hC.out.b
    have y0 := kept1 hx0 hb
    have y1 := kept1 hx1 hb
    have y2 := kept1 hx2 hb
    rw [hxe] at y0 y1 y2
    have hM1 := hM.below hb
    have c0 := hC.out.c0
    have c1 := hC.out.c1
    obtain ⟨z0, z1, z2, zf⟩ := st_cells hC.out.s
    simp only at z0 z1 z2
    obtain ⟨ur, hur⟩ : ∃ ur, u.reverse = ur := ⟨_, rfl⟩
    rw [hur] at hC
    have ho := hC.out.o
    obtain ⟨ul, hul0⟩ : ∃ ul, ur.length = ul := ⟨_, rfl⟩
    rw [hul0] at ho
    obtain ⟨pp, cp, rfl⟩ := ownForm ho
    have hulu : u.length = ul := by rw [← hul0, ← hur, List.length_reverse]
    have hul : u.length ≤ 96 := by
      have h1 := hRl.out.2 _ hw0.out
      have h2 := congrArg List.length hwu.out
      simp only [List.length_append] at h2
      simp only at h1
      omega
    have hn0 : (0 : Int) < (n : Int) := by omega
    have hpf := Pl.par_first hF.out hmem.out
    go_upto_region 3 with fail
    have S0 : wr.drew.cell? ⟨tb, 0, none⟩ = some (.int .i64 zp) ∧ wr.drew.cell? ⟨tb, 1, none⟩ = some (.int .i64 (zt : Int)) ∧ wr.drew.cell? ⟨tb, 2, none⟩ = some (.bool zm) ∧ wr.drew.cell? ⟨w.heap.size, 0, none⟩ = some (.slice (some x) n cap) ∧ wr.drew.cell? x = some (.int .i64 p) ∧ wr.drew.cell? ⟨x.block, x.off + 1, none⟩ = some (.int .i64 0) ∧ wr.drew.cell? ⟨x.block, x.off + 2, none⟩ = some (.bool false) := ⟨z0, z1, z2, c0, y0, y1, y2⟩
    refine region_head_held 5 (fun w' => w'.cell? ⟨tb, 0, none⟩ = some (.int .i64 zp) ∧ w'.cell? ⟨tb, 1, none⟩ = some (.int .i64 (zt : Int)) ∧ w'.cell? ⟨tb, 2, none⟩ = some (.bool zm) ∧ w'.cell? ⟨w.heap.size, 0, none⟩ = some (.slice (some x) n cap) ∧ w'.cell? x = some (.int .i64 p) ∧ w'.cell? ⟨x.block, x.off + 1, none⟩ = some (.int .i64 0) ∧ w'.cell? ⟨x.block, x.off + 2, none⟩ = some (.bool false)) (by kernel_rfl) (by kernel_rfl) S0 (fun hHeld => ?_)
    simp only [List.take_succ_cons, List.take_zero, List.drop_succ_cons, List.drop_zero]
    refine wpAnyH_take (i := 0) (v := ?_) rfl (by kernel_rfl) (by kernel_rfl) (by kernel_rfl) (fun _ _ _ h => h) (Or.inl ⟨by rfl, ?_⟩) (by assumption) ?_
    rotate_left 1
    · (intro w hSw; (try dsimp only at hSw); go_simp; all_goals with_reducible rfl)
    try simp only [Act.put, List.setIfInBounds_toArray, List.set_cons_zero, List.set_cons_succ]
    refine wpAnyH_take (i := 1) (v := ?_) rfl (by kernel_rfl) (by kernel_rfl) (by kernel_rfl) (fun _ _ _ h => h) (Or.inl ⟨by rfl, ?_⟩) (by assumption) ?_
    rotate_left 1
    · (intro w hSw; (try dsimp only at hSw); go_simp; all_goals with_reducible rfl)
    try simp only [Act.put, List.setIfInBounds_toArray, List.set_cons_zero, List.set_cons_succ]
    refine wpAnyH_take (i := 2) (v := ?_) rfl (by kernel_rfl) (by kernel_rfl) (by kernel_rfl) (fun _ _ _ h => h) (Or.inl ⟨by rfl, ?_⟩) (by assumption) ?_
    rotate_left 1
    · (intro w hSw; (try dsimp only at hSw); go_simp; all_goals with_reducible rfl)
    try simp only [Act.put, List.setIfInBounds_toArray, List.set_cons_zero, List.set_cons_succ]
    refine wpAnyH_take (i := 3) (v := ?_) rfl (by kernel_rfl) (by kernel_rfl) (by kernel_rfl) (fun _ _ _ h => h) (Or.inl ⟨by rfl, ?_⟩) (by assumption) ?_
    rotate_left 1
    · (intro w hSw; (try dsimp only at hSw); go_simp; all_goals with_reducible rfl)
    try simp only [Act.put, List.setIfInBounds_toArray, List.set_cons_zero, List.set_cons_succ]
    refine wpAnyH_take (i := 4) (v := ?_) rfl (by kernel_rfl) (by kernel_rfl) (by kernel_rfl) (fun _ _ _ h => h) (Or.inl ⟨by rfl, ?_⟩) (by assumption) ?_
    rotate_left 1
    · (intro w hSw; (try dsimp only at hSw); go_simp; all_goals with_reducible rfl)
    try simp only [Act.put, List.setIfInBounds_toArray, List.set_cons_zero, List.set_cons_succ]
    simp only [List.getElem_toArray, List.getElem_cons_succ, List.getElem_cons_zero, Act.put, List.setIfInBounds_toArray, List.set_cons_zero, List.set_cons_succ]
    refine wpAnyH_done (by kernel_rfl) ?_ _
    show wpList _ _ _ _ _ _
    clear hHeld S0
    have z0' := z0
    have z1' := z1
    have z2' := z2
    change wr.drew.cell? _ = _ at z0'
    change wr.drew.cell? _ = _ at z1'
    change wr.drew.cell? _ = _ at z2'
    have c1' : wr.drew.cell? ⟨w.heap.size, 1, none⟩ = some (.map (some mb)) := c1
    by_cases hv1 : v1 = []
    · have hq : ∀ w, (binOp .neq 111 (.agg #[.int .i64 zp, .int .i64 (zt : Int), .bool zm]) (.agg #[.int .i64 p, .int .i64 0, .bool false])).run Tryd.prog w = .ok (.bool false) w := fun w => by
        have e := hpf.2 hv1
        simp only [Pl.start, Pl.St.mk.injEq] at e
        obtain ⟨rfl, rfl, rfl⟩ := e
        rw [HQ.out]
        simp
      have hwu2 := hwu.out
      rw [hv1, List.nil_append] at hwu2
      subst hwu2
      have hC2 : Hid (CD w wr.drew x n cap mb tb ur (.slice pp ul cp) ⟨zp, zt, zm⟩) := Lib.hid (hC.out.below (Below.refl _ _).drew)
      have hul1 : ul ≤ 100000 := by omega
      replace hulu := Lib.hid hulu
      replace hul0 := Lib.hid hul0
      replace hur := Lib.hid hur
      clear ho hul
      clear hC hpf HQ hb hM1
      have hsz := hC2.out.b.size
      generalize wr.drew = Y at *
      go_wp2_with fail
      refine (reverse_any (w.heap.size + 2) _ ur ul hul0.out hul1 _ (by have h := hC2.out.o; rw [hul0.out] at h; exact h)).mono ?_
      rintro e w3 ⟨rfl, ⟨b, c, heq, hN, hfr⟩, hb3⟩
      simp only [Value.slice.injEq] at heq
      obtain ⟨rfl, _, rfl⟩ := heq
      rw [← hur.out, List.reverse_reverse] at hN
      have hbf := hC2.out.b.trans (hb3.mono (by omega))
      replace hN := Lib.hid hN
      have hfr2 : Hid (∀ y, pp = some y → w.heap.size ≤ y.block ∧ y.block < w3.heap.size) := Lib.hid (fun y e => by have := hfr y e; omega)
      clear hfr
      clear hC2 hb3
      go_wp2
      go_ret
      exact ⟨⟨pp, cp, by rw [hulu.out]; rfl, hN, hfr2⟩, hbf⟩
    · have hnz : ¬ (⟨zp, zt, zm⟩ : Pl.St) = Pl.start p := fun e => hv1 (hpf.1 e)
      have hq : ∀ w, (binOp .neq 111 (.agg #[.int .i64 zp, .int .i64 (zt : Int), .bool zm]) (.agg #[.int .i64 p, .int .i64 0, .bool false])).run Tryd.prog w = .ok (.bool true) w := fun w => by
        rw [HQ.out, decide_eq_false]
        · rfl
        · rintro ⟨rfl, e2, rfl⟩
          exact hnz (by unfold Pl.start; rw [show zt = 0 by omega])
      obtain ⟨v2, k, rfl⟩ : ∃ v2 k, v1 = v2 ++ [k] := ⟨v1.dropLast, v1.getLast hv1, (List.dropLast_concat_getLast hv1).symm⟩
      obtain ⟨⟨q0, q1, q2⟩, hmem2, hfz⟩ := hA.out.2 _ _ _ hmem.out
      have hlook := hM1.drew.look1 (hK.out _ hmem.out)
      rw [hfz] at hlook
      simp only [Option.getD_some, arV, stV] at hlook
      have hul2 : u.length + 1 ≤ 96 := by
        have h1 := hRl.out.2 _ hw0.out
        have h2 := congrArg List.length hwu.out
        simp only [List.length_append, List.length_cons, List.length_nil] at h2
        simp only at h1
        omega
      have hwu2 : Hid (w0 = v2 ++ (k :: u)) := Lib.hid (by rw [hwu.out]; simp)
      have hC2 : Hid (CD w wr.drew x n cap mb tb ur (.slice pp ul cp) ⟨zp, zt, zm⟩) := Lib.hid (hC.out.below (Below.refl _ _).drew)
      have hul1 : ul + 1 ≤ 96 := by omega
      replace hulu := Lib.hid hulu
      replace hul0 := Lib.hid hul0
      replace hur := Lib.hid hur
      clear ho hul hul2
      have hmem3 : Hid ((⟨q0, q1, q2⟩, v2) ∈ R) := Lib.hid hmem2
      clear hC hpf HQ hb hM1 hfz hnz hwu hmem hmem2
      clear z0 z1 z2 c0 c1
      generalize wr.drew = Y at *
      go_upto_region 5 with fail
      have hba := below_alloc (Below.refl Y.heap.size Y) (Obj.cells #[.int .i64 q0, .int .i64 (q1 : Int), .bool q2, .int .i64 k] 138)
      have hC3 := Lib.hid (hC2.out.below hba)
      have a0 : (Y.alloc (Obj.cells #[.int .i64 q0, .int .i64 (q1 : Int), .bool q2, .int .i64 k] 138)).cell? ⟨Y.heap.size, 0, none⟩ = some (.int .i64 q0) := by simp [go_sem]
      have a1 : (Y.alloc (Obj.cells #[.int .i64 q0, .int .i64 (q1 : Int), .bool q2, .int .i64 k] 138)).cell? ⟨Y.heap.size, 1, none⟩ = some (.int .i64 (q1 : Int)) := by simp [go_sem]
      have a2 : (Y.alloc (Obj.cells #[.int .i64 q0, .int .i64 (q1 : Int), .bool q2, .int .i64 k] 138)).cell? ⟨Y.heap.size, 2, none⟩ = some (.bool q2) := by simp [go_sem]
      have a3 : (Y.alloc (Obj.cells #[.int .i64 q0, .int .i64 (q1 : Int), .bool q2, .int .i64 k] 138)).cell? ⟨Y.heap.size, 3, none⟩ = some (.int .i64 k) := by simp [go_sem]
      have hab : ∀ g, (Value.slice pp ul cp).ownBlock = some g → w.heap.size + 2 ≤ g := fun g hg => ownFar hC2.out.o hg
      have haz : ∀ g, (Value.slice pp ul cp).ownBlock = some g → g < Y.heap.size := fun g hg => (hC2.out.o.lt g hg).2
      have hyz := hC2.out.s.lt
      have hyt := hC2.out.t
      clear hC2 hba hlook hq c1' z0' z1' z2'
      generalize Y.alloc (Obj.cells #[.int .i64 q0, .int .i64 (q1 : Int), .bool q2, .int .i64 k] 138) = X1 at *
      generalize Y.heap.size = ab at *
      have o := hC3.out.o
      rw [hul0.out] at o
      have hx1s : w.heap.size + 2 ≤ X1.heap.size := by have := hC3.out.s.lt; omega
      go_wp2_with (first
        | (at_builtin; refine wpList_append_own_at _ rfl (.tmp 21) (.tmp 24) 22 rfl (w.heap.size + 2) 3 i0 (.int .i64 0) 1 8 Tryd.underlying22 hi hz0 hz1 hz2 rfl (by decide) _ _ _ rfl (o.alloc _) ⟨X1.heap.size, 0, none⟩ 1 1 [.int .i64 k] rfl rfl ?c1 ?c2 ?c3 ?c4 ?c5 ?_)
        | fail)
      case c1 =>
        intro j u hj
        match j, hj with
        | 0, hj => simp at hj; subst hj; simp [Addr.add]
      case c2 => intro u hu; simp at hu; subst hu; rfl
      case c3 => unfold maxLen; omega
      case c4 => omega
      case c5 => first | omega | (simp; omega)
      intro v' w4 hown' hgrow hnn hat
      obtain ⟨p9, c9, rfl⟩ := ownForm hown'
      have hbt := butGrown hgrow
      have h3 := hC3.out.s.lt
      have k0 := hbt.kept (cell_alloc a0 _) (fun e => by have := haz _ e; simp only at this; omega)
      have k1 := hbt.kept (cell_alloc a1 _) (fun e => by have := haz _ e; simp only at this; omega)
      have k2 := hbt.kept (cell_alloc a2 _) (fun e => by have := haz _ e; simp only at this; omega)
      have hS4 : SA w4 tb ⟨zp, zt, zm⟩ := hbt.row (hC3.out.s.alloc _) hC3.out.vt
      have d0 := hbt.kept (cell_alloc hC3.out.c0 _) (fun e => by have := hab _ e; simp only at this; omega)
      have d1 := hbt.kept (cell_alloc hC3.out.c1 _) (fun e => by have := hab _ e; simp only at this; omega)
      obtain ⟨z0, z1, z2, zf⟩ := st_cells hS4
      simp only at z0 z1 z2
      have zf0 := zf 0
      have zf1 := zf 1
      have zf2 := zf 2
      have hz4 : X1.heap.size + 1 ≤ w4.heap.size := by have := hbt.size; simp at this; omega
      have hne : ∀ g, (Value.slice p9 (ul + 1) c9).ownBlock = some g → g ≠ tb ∧ g < w4.heap.size := fun g hg => ⟨fun e => by
        rcases hat with hh | hh
        · exact hC3.out.vt (by rw [← hh, hg, e])
        · rw [hh] at hg
          have := Option.some.inj hg
          omega, (hown'.lt g hg).2⟩
      have hbs : But (fun k => k = tb) w4 (((w4.setCell ⟨tb, 0, none⟩ (.int .i64 q0)).setCell ⟨tb, 1, none⟩ (.int .i64 (q1 : Int))).setCell ⟨tb, 2, none⟩ (.bool q2)) := (((But.refl (fun k => k = tb) w4).setCell (p := ⟨tb, 0, none⟩) (.inr rfl) _).setCell (p := ⟨tb, 1, none⟩) (.inr rfl) _).setCell (p := ⟨tb, 2, none⟩) (.inr rfl) _
      have hb4 : Below w.heap.size w w4 := (below_alloc hC3.out.b _).grown hgrow (by have := hC3.out.b.size; simp; omega) (fun g hg => by have := hab g hg; omega)
      have hS5 := hS4.set ⟨q0, q1, q2⟩
      have hS5' : SA (((w4.setCell ⟨tb, 0, none⟩ (.int .i64 q0)).setCell ⟨tb, 1, none⟩ (.int .i64 (q1 : Int))).setCell ⟨tb, 2, none⟩ (.bool q2)) tb ⟨q0, q1, q2⟩ := hS5
      obtain ⟨y0', y1', y2', _⟩ := st_cells hS5'
      simp only at y0' y1' y2'
      have hCn : Hid (CD w ((((w4.setCell ⟨tb, 0, none⟩ (.int .i64 q0)).setCell ⟨tb, 1, none⟩ (.int .i64 (q1 : Int))).setCell ⟨tb, 2, none⟩ (.bool q2)).alloc (Obj.cells #[.int .i64 q0, .int .i64 (q1 : Int), .bool q2] 111)) x n cap mb (((w4.setCell ⟨tb, 0, none⟩ (.int .i64 q0)).setCell ⟨tb, 1, none⟩ (.int .i64 (q1 : Int))).setCell ⟨tb, 2, none⟩ (.bool q2)).heap.size (k :: u).reverse (.slice p9 (ul + 1) c9) ⟨q0, q1, q2⟩) := Lib.hid (by
        have hl9 : (k :: u).reverse = ur ++ [k] := by rw [List.reverse_cons, hur.out]
        have hzs : (((w4.setCell ⟨tb, 0, none⟩ (.int .i64 q0)).setCell ⟨tb, 1, none⟩ (.int .i64 (q1 : Int))).setCell ⟨tb, 2, none⟩ (.bool q2)).heap.size = w4.heap.size := by simp
        rw [hl9]
        refine ⟨cell_alloc (hbs.kept d0 (fun e => by simp only at e; omega)) _, cell_alloc (hbs.kept d1 (fun e => by simp only at e; omega)) _, ?_, sa_new _ ⟨q0, q1, q2⟩, by rw [hzs]; omega, fun e => by have := (hne _ e).2; rw [hzs] at this; omega, below_alloc (hb4.trans (hbs.below hb4.size (fun k hk e => by omega))) _⟩
        have hh := (ownBut hown' hbs (fun g hg => (hne g hg).1)).alloc (Obj.cells #[.int .i64 q0, .int .i64 (q1 : Int), .bool q2] 111)
        rw [List.length_append, List.map_append, hul0.out]
        exact hh)
      have hzs9 : (((w4.setCell ⟨tb, 0, none⟩ (.int .i64 q0)).setCell ⟨tb, 1, none⟩ (.int .i64 (q1 : Int))).setCell ⟨tb, 2, none⟩ (.bool q2)).heap.size = w4.heap.size := by simp
      rw [hzs9] at hCn
      clear hown' hgrow hnn hat hbt hC3 hS4 hbs hb4 hS5 hS5' hne a0 a1 a2 a3 o zf hzs9
      go_wp2
      go_roundw
      case rel => exact ⟨⟨q0, q1, q2⟩, k :: u, v2, _, rfl, hmem3, hwu2, hCn⟩
      case measure => first | (simp [slen]; done) | (simp [slen]; omega) | omega
end Go.Proofs.YtidcedilfhmllaaDoor
