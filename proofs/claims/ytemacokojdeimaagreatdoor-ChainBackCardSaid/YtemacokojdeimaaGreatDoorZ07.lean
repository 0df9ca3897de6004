/- What the claims of layer 2 share, part 7: several texts one behind the other. -/
import Derived.Test.YtemacokojdeimaaGreatDoorZ06
set_option linter.unusedSimpArgs false
set_option linter.unusedVariables false
/- Contracts of package chain: Suspects. -/
namespace Ch
/-- is there a solution without this link, and no other one that says the same? -/
def susp (n : Nat) (L : List Lk) (k i : Nat) : Bool := !twin (none' L.length) i (L.getD i noLk) L 0 && cons n L ((none' L.length).set i true) k
/-- Suspects, the sorted clash s -/
def suspE (n : Int) (L : List Lk) (k : Nat) (s : List Nat) : List Nat × Int :=
  if (check n L).1 ≠ 0 then ([], (check n L).1) else if cons n.toNat L [] k then ([], 0) else (s.filter (susp n.toNat L k), 0)
def sortI (l : List Int) : List Int := l.mergeSort fun x y => decide (x ≤ y)
theorem filt_hit {p : Nat → Bool} {s : List Nat} {j : Nat} (h : j < s.length) (hp : p (s.getD j 0) = true) : (s.take (j + 1)).filter p = (s.take j).filter p ++ [s.getD j 0] := by
  have e : s[j] = s.getD j 0 := by rw [List.getD, List.getElem?_eq_getElem h]; rfl
  rw [List.take_succ_eq_append_getElem h, e, List.filter_append, List.filter_cons, hp]
  simp
theorem filt_miss {p : Nat → Bool} {s : List Nat} {j : Nat} (h : j < s.length) (hp : p (s.getD j 0) = false) : (s.take (j + 1)).filter p = (s.take j).filter p := by
  have e : s[j] = s.getD j 0 := by rw [List.getD, List.getElem?_eq_getElem h]; rfl
  rw [List.take_succ_eq_append_getElem h, e, List.filter_append, List.filter_cons, hp]
  simp
end Ch
namespace Go.Proofs.YtemacokojdeimaaGreatDoor
open Go.RowKit

theorem ints_of_own {W : World} {B : Nat} {v : Value} {c : List Nat} (h : W.ownsRow B 3 1 v c.length (c.map fun i : Nat => Value.int .i64 (i : Int))) : ∃ p cp, v = .slice p c.length cp ∧ IntsAt W p (Ch.ints c) ∧ ∀ x, p = some x → B ≤ x.block := by
  rcases h.2 with ⟨hv, h0⟩ | ⟨g, cap, cur, hv, _⟩
  · refine ⟨none, 0, by rw [hv, h0], fun k hk => ?_, fun x hx => by cases hx⟩
    simp [Ch.ints] at hk
    omega
  · rw [hv] at h
    exact ⟨_, cap, hv, ints_of_owns h, fun x hx => by obtain rfl := Option.some.inj hx; exact owns_far h rfl⟩
theorem ints_len (c : List Nat) : (Ch.ints c).length = c.length := by simp [Ch.ints]
theorem ints_at (c : List Nat) {j : Nat} (h : j < c.length) : (Ch.ints c).getD j 0 = ((c.getD j 0 : Nat) : Int) := by
  unfold Ch.ints
  rw [List.getD, List.getD, List.getElem?_map, List.getElem?_eq_getElem h]
  rfl

set_option maxRecDepth 100000 in
set_option maxHeartbeats 4000000 in
theorem suspects_any (n : Int) (a : Option Addr) (cap : Nat) (L : List Ch.Lk) (k : Nat) (hE : (Ch.check n L).1 = 0 → Ch.enough n.toNat L [] k = true)
    (hS : (Ch.check n L).1 = 0 → ∀ i, i < L.length → ∃ R, Ch.levels n.toNat L ((Ch.none' L.length).set i true) k = some R)
    (c s : List Nat) (hC : (Ch.check n L).1 = 0 → Ch.cons n.toNat L [] k = false → Ch.clash n.toNat L [] = some (some c) ∧ Ch.sortI (Ch.ints c) = Ch.ints s ∧ (∀ i ∈ s, i < L.length) ∧ s.length ≤ 1000)
    (l : List Nat) (er : Int) (hR : Ch.suspE n L k s = (l, er)) (w : World) (hL : LksAt w a L) :
    Calls Tryz.prog 23 #[sysV n a L.length cap] w (ChPost w l er) := by
  obtain ⟨i0, hi, hz0, hz1, hz2⟩ := info_parts infoInt
  have hB0 : Below w.heap.size w (w.alloc (Obj.cells #[.int .i64 n, .slice a L.length cap] 24)) := below_alloc (Below.refl _ _) _
  have HC := Lib.hid (check_any n a cap L _ (hL.below hB0))
  have hok := Ch.check_ok (n := n) (L := L)
  unfold Ch.suspE at hR
  obtain ⟨ec, hec⟩ : ∃ ec, (Ch.check n L).1 = ec := ⟨_, rfl⟩
  obtain ⟨at1, hat⟩ : ∃ at1, (Ch.check n L).2 = at1 := ⟨_, rfl⟩
  rw [hec, hat] at HC
  rw [hec] at hR hok hE hS hC
  clear hec hat
  replace hR := Lib.hid hR
  replace hok := Lib.hid hok
  replace hE := Lib.hid hE
  replace hS := Lib.hid hS
  replace hC := Lib.hid hC
  unfold sysV at *
  go_enter Tryz.func23, Tryz.ntmps23
  go_wp2_with fail
  refine HC.out.mono ?_
  rintro e w1 ⟨rfl, hb1⟩
  have k0 : w1.cell? ⟨w.heap.size, 0, none⟩ = some (.int .i64 n) := kept1 (by simp [go_sem]) hb1
  have k1 : w1.cell? ⟨w.heap.size, 1, none⟩ = some (.slice a L.length cap) := kept1 (by simp [go_sem]) hb1
  have hB1 := bstep1 (Below.refl _ _) hb1
  clear HC hb1 hB0
  by_cases h0 : ec = 0
  · subst h0
    have h := hR.out
    rw [if_neg (by simp)] at h
    obtain ⟨n1, n2, hm3, hokk⟩ := hok.out rfl
    have hE2 := hE.out rfl
    have hS2 := hS.out rfl
    have hC2 := hC.out rfl
    obtain ⟨N, rfl⟩ : ∃ N : Nat, n = (N : Int) := ⟨n.toNat, by omega⟩
    simp only [Int.toNat_natCast] at h hE2 hS2 hC2
    obtain ⟨R, hR2, hR3⟩ := Ch.enough_levels hE2
    rw [← hR3] at h hC2
    have HN := Lib.hid (newGraph_any N (by omega) a cap L _ (Lib.hid rfl) hm3 (Lib.hid hokk) w1 (Lib.hid (hL.below hB1)))
    unfold sysV at HN
    replace h := Lib.hid h
    replace hS2 := Lib.hid hS2
    replace hC2 := Lib.hid hC2
    replace hokk := Lib.hid hokk
    clear hR hok hE hE2 hR3 hS hC
    go_wp2_with fail
    refine HN.out.mono ?_
    rintro e w2 ⟨gb, ib, db, V, rfl, h1, h2, h3, h4, h5, h6, h7⟩
    have G := Lib.hid (gr_of_ng (w := w1) rfl hm3 hokk.out h1 h2 h3 ((hL.below hB1).below h7))
    have hAp := Lib.hid (ap_of_ng (w := w1) rfl h1 h2 h3 (hL.below hB1) h6)
    have hdb : w.heap.size ≤ db := Nat.le_trans hB1.size h6
    have hB2 := hB1.trans (h7.mono hB1.size)
    have HK := Lib.hid (consistent_any N gb (by omega) (by omega) L [] k R (Lib.hid hR2) _ ib db _ a cap V w2 G)
    clear HN h1 h2 h3 h4 h5 h6 h7 hR2
    go_wp2_with fail
    refine HK.out.mono ?_
    rintro e w3 ⟨rfl, hb3⟩
    have G3 := Lib.hid (G.out.below hb3)
    have hB3 := hB2.trans (hb3.mono hB2.size)
    clear HK hb3 G
    cases R with
    | some s' =>
      have h9 := h.out
      simp only [Option.isSome, if_true] at h9
      obtain ⟨rfl, rfl⟩ := Prod.mk.inj h9
      clear h h9
      go_wp2
      go_ret2
      exact ⟨_, rfl, World.ownsRow_nil _ _ _ _, hB3⟩
    | none =>
      have h9 := h.out
      simp only [Option.isSome] at h9
      rw [if_neg (by simp)] at h9
      obtain ⟨hl9, rfl⟩ := Prod.mk.inj h9
      obtain ⟨hcl, hso, hsl, hs9⟩ := hC2.out rfl
      have HX := Lib.hid (clash_any N gb (by omega) (by omega) L [] _ ib db _ a cap V c (Lib.hid hcl) w3 G3)
      replace hl9 := Lib.hid hl9
      replace hso := Lib.hid hso
      replace hsl := Lib.hid hsl
      clear h h9 hcl hC2
      go_wp2_with fail
      refine HX.out.mono ?_
      rintro e w4 ⟨v, rfl, hown, hb4⟩
      have hB4 := hB3.trans (hb4.mono hB3.size)
      obtain ⟨p, cp, rfl, hI4, _⟩ := ints_of_own hown
      replace hI4 := Lib.hid hI4
      clear HX hown
      have HV := Lib.hid (values_any p c.length cp w4)
      go_wp2_with fail
      refine HV.out.mono ?_
      rintro e w5 ⟨rfl, rfl⟩
      have hX : Below w4.heap.size w4 (w4.alloc (Obj.cells #[.slice p c.length cp] 41)) := below_alloc (Below.refl _ _) _
      have hlc : c.length ≤ 100000 := by
        have h1 := congrArg List.length hso.out
        unfold Ch.sortI at h1
        rw [List.length_mergeSort, ints_len, ints_len] at h1
        omega
      have HT := Lib.hid (sorted_any w4.heap.size c.length cp p (Ch.ints c) (Lib.hid (ints_len c)) hlc (w4.alloc (Obj.cells #[.slice p c.length cp] 41)) (Lib.hid ⟨by simp [go_sem], hI4.out.below hX⟩))
      have hB5 := hB4.trans (hX.mono hB4.size)
      have G5 := Lib.hid (G3.out.below ((hb4.mono G3.out.hH).trans (hX.mono (Nat.le_trans G3.out.hH hb4.size))))
      clear HV hI4 hX hb4
      go_wp2_with fail
      refine HT.out.mono ?_
      rintro e w6 ⟨v, rfl, hown, hb6⟩
      have hown2 : w6.ownsRow (w4.alloc (Obj.cells #[.slice p c.length cp] 41)).heap.size 3 1 v s.length (s.map fun i : Nat => Value.int .i64 (i : Int)) := by
        have h := hown
        rw [show (Ch.ints c).mergeSort (fun x y => decide (x ≤ y)) = Ch.ints s from hso.out, ints_len] at h
        have e9 : (Ch.ints s).map iV = s.map fun i : Nat => Value.int .i64 (i : Int) := by unfold Ch.ints; rw [List.map_map]; rfl
        rw [e9] at h
        exact h
      obtain ⟨p2, cp2, rfl, hI6, hfar⟩ := ints_of_own hown2
      have hB6 := hB5.trans (hb6.mono hB5.size)
      have hGH := G5.out.hH
      have hG6 : Gr w6 w6.heap.size gb ib db N L.length a cap V L (fun i => (Ch.none' L.length).getD i false) := by
        have e : (fun i => (Ch.none' L.length).getD i false) = (fun i => ([] : List Bool).getD i false) := by funext i; rw [Ch.none_get]; rfl
        rw [e]; exact (G5.out.below (hb6.mono hGH)).high
      have hdb2 : db < (w4.alloc (Obj.cells #[.slice p c.length cp] 41)).heap.size := by have := G5.out.hd; omega
      have hfar2 : ∀ x, p2 = some x → x.block ≠ db := fun x hx => by have := hfar x hx; omega
      have HID := Lib.hid (ID.mk (cv := .slice none 0 0) (pre := []) hG6 (World.ownsRow_nil _ _ _ _) (But.refl (fun k => k = db) w6))
      replace hI6 := Lib.hid hI6
      replace hfar2 := Lib.hid hfar2
      clear hown hown2 hfar hb6 hGH hG6 G5 hdb2 HT hB5 hso k0 k1 hB1 hB2 hB3 hB4 G3 hlc
      go_wp2
      go_loopw [27, 7] (fun x cv wr => ∃ j : Nat, j ≤ s.length ∧ x = .int .i64 (j : Int) ∧ Hid (ID w6 wr gb ib db N L.length a cap V L (fun i => (Ch.none' L.length).getD i false) cv ((s.take j).filter (Ch.susp N L k)))) (fun x _ _ => s.length - (RowKit.intOf x).toNat)
      case atStart => exact ⟨0, Nat.zero_le _, rfl, HID⟩
      case round =>
        clear HID
        obtain ⟨j, hj, rfl, HI⟩ := hrel
        by_cases hlt : j < s.length
        · have hi5 : (j : Int) < (s.length : Int) := by omega
          have hi6 : (0 : Int) ≤ (j : Int) := by omega
          obtain ⟨x, hx, hcx⟩ := hI6.out j (by rw [ints_len]; exact hlt)
          subst hx
          rw [ints_at s hlt] at hcx
          have hcx2 := (HI.out.b.cell (block_lt_of_cell hcx) (by have e : (x.add j).block = x.block := by unfold Addr.add; split <;> rfl
                                                                 rw [e]; exact hfar2.out x rfl)).trans hcx
          have hil : s.getD j 0 < L.length := hsl.out _ (by rw [List.getD, List.getElem?_eq_getElem hlt]; exact List.getElem_mem hlt)
          have hhit := Ch.filt_hit (p := Ch.susp N L k) hlt
          have hmiss := Ch.filt_miss (p := Ch.susp N L k) hlt
          obtain ⟨i, hi9⟩ : ∃ i, s.getD j 0 = i := ⟨_, rfl⟩
          rw [hi9] at hcx2 hil hhit hmiss
          obtain ⟨R, hR2⟩ := hS2.out i hil
          have hcons : Ch.cons N L ((Ch.none' L.length).set i true) k = R.isSome := by
            unfold Ch.cons; rw [hR2]; cases R <;> rfl
          obtain ⟨t, ht⟩ : ∃ t, Ch.twin (Ch.none' L.length) i (L.getD i Ch.noLk) L 0 = t := ⟨_, rfl⟩
          have hsus : Ch.susp N L k i = (!t && R.isSome) := by unfold Ch.susp; rw [ht, hcons]
          rw [hsus] at hhit hmiss
          have HTw := Lib.hid (hasTwin_any N gb w6.heap.size ib db L.length a cap V L (Ch.none' L.length) i hil wr (Lib.hid HI.out.g) t (Lib.hid ht))
          replace hR2 := Lib.hid hR2
          replace hhit := Lib.hid hhit
          replace hmiss := Lib.hid hmiss
          clear hcx hi9 hsus ht hcons
          cases t
          · go_wp2_with fail
            refine HTw.out.mono ?_
            rintro e w7 ⟨rfl, hb7⟩
            have HI7 := Lib.hid (HI.out.below hb7)
            have HW := Lib.hid (without_any N gb w6.heap.size ib db L.length (by omega) (by omega) a cap V L (Ch.none' L.length) i hil (Ch.none_len _) (Ch.none_get _ _) k R hR2 w7 (Lib.hid HI7.out.g) hAp)
            clear HTw hb7 HI hcx2
            cases hRs : R.isSome
            · rw [hRs] at HW
              have hms := Lib.hid (hmiss.out (by rw [hRs]; rfl))
              clear hRs hhit hmiss
              go_wp2_with fail
              refine HW.out.mono ?_
              rintro e w8 ⟨rfl, hb8, hd8⟩
              have HI8 := Lib.hid (HI7.out.marked hAp.out hb8 hd8)
              clear hb8 hd8 HW HI7
              go_wp2
              go_roundw
              case rel => exact ⟨j + 1, by omega, by go_num, Lib.hid (by rw [hms.out]; exact HI8.out)⟩
              case measure => show s.length - ((j : Int) + 1).toNat < s.length - (j : Int).toNat; omega
            · rw [hRs] at HW
              have hht := Lib.hid (hhit.out (by rw [hRs]; rfl))
              clear hRs hhit hmiss
              go_wp2_with fail
              refine HW.out.mono ?_
              rintro e w8 ⟨rfl, hb8, hd8⟩
              have HI3 := Lib.hid (HI7.out.marked hAp.out hb8 hd8)
              have hown := Lib.hid HI3.out.o
              have hsz := HI3.out.b.size
              have hln : ((s.take j).filter (Ch.susp N L k)).length ≤ 1000 := by
                have h1 := List.length_filter_le (Ch.susp N L k) (s.take j)
                rw [List.length_take] at h1
                omega
              clear hb8 hd8 HW HI7
              go_wp2_with (first
                | (at_builtin; refine wpList_append_own _ rfl (.tmp 40) (.tmp 42) 41 rfl w6.heap.size 3 i0 (.int .i64 0) 1 8 Tryz.underlying41 hi hz0 hz1 hz2 rfl (by decide) _ _ _ rfl (hown.out.alloc _) ⟨w8.heap.size, 0, none⟩ 1 1 [.int .i64 (i : Int)] rfl rfl ?c1 ?c2 ?c3 ?c4 ?c5 ?_)
                | fail)
              case c1 =>
                intro j u hj
                match j, hj with
                | 0, hj => simp at hj; subst hj; simp [Addr.add]
              case c2 => intro u hu; simp at hu; subst hu; rfl
              case c3 => unfold maxLen; omega
              case c4 => omega
              case c5 => simp; omega
              intro v' w9 hown' hgrow hnn
              have HI9 := Lib.hid ((HI3.out.below ((Below.refl _ _).alloc (Nat.le_refl _) (Obj.cells #[.int .i64 (i : Int)] 3))).push hgrow hown')
              clear hown hown' hgrow hnn HI3
              go_wp2
              go_roundw
              case rel => exact ⟨j + 1, by omega, by go_num, Lib.hid (by rw [hht.out]; exact HI9.out)⟩
              case measure => show s.length - ((j : Int) + 1).toNat < s.length - (j : Int).toNat; omega
          · have hms := Lib.hid (hmiss.out rfl)
            go_wp2_with fail
            refine HTw.out.mono ?_
            rintro e w7 ⟨rfl, hb7⟩
            have HI7 := Lib.hid (HI.out.below hb7)
            clear HTw hb7 HI hcx2 hhit hmiss hR2
            go_wp2
            go_roundw
            case rel => exact ⟨j + 1, by omega, by go_num, Lib.hid (by rw [hms.out]; exact HI7.out)⟩
            case measure => show s.length - ((j : Int) + 1).toNat < s.length - (j : Int).toNat; omega
        · obtain rfl : j = s.length := by omega
          have hi5 : ¬ ((s.length : Nat) : Int) < ((s.length : Nat) : Int) := by omega
          have ho := HI.out.o
          rw [List.take_length, hl9.out] at ho
          have hb9 := HI.out.b
          have hz9 := hB6.size
          replace ho := Lib.hid ho
          go_wp2
          go_ret2
          exact ⟨_, rfl, owns_base ho.out hz9, hB6.trans (hb9.below hz9 (fun k hk e => by omega))⟩
  · have h := hR.out
    rw [if_pos h0] at h
    obtain ⟨rfl, rfl⟩ := Prod.mk.inj h
    clear h hR
    go_wp2
    go_ret2
    exact ⟨_, rfl, World.ownsRow_nil _ _ _ _, hB1⟩
end Go.Proofs.YtemacokojdeimaaGreatDoor

/- Contracts of package chain: With. -/
namespace Ch
/-- With: the error -/
def withE (n : Int) (L L2 : List Lk) : Int :=
  if (check n L).1 ≠ 0 then (check n L).1 else if (300 : Int) - L.length < L2.length then 2 else (check n (L ++ L2)).1
end Ch
namespace Go.Proofs.YtemacokojdeimaaGreatDoor
open Go.RowKit

/-- what With leaves -/
def WiPost (w : World) (n : Int) (L L2 : List Ch.Lk) (er : Int) (e : Ending) (w' : World) : Prop :=
  ∃ k v, e = .returned (.tuple #[.agg #[.int .i64 k, v], .int .i64 er]) ∧ (er ≠ 0 → k = 0 ∧ v = .slice none 0 0) ∧ (er = 0 → k = n ∧ w'.ownsRow w.heap.size 54 3 v (L.length + L2.length) (lkCells (L ++ L2))) ∧ Below w.heap.size w w'

theorem owns_slice {w : World} {base n size : Nat} {e : TypeId} {v : Value} {xs : List Value} (h : w.ownsRow base e size v n xs) : ∃ p cp, v = .slice p n cp ∧ (p = none → cp = 0) := by
  rcases h.2 with ⟨hv, h0⟩ | ⟨g, cap, cur, hv, _⟩
  · exact ⟨none, 0, by rw [hv, h0], fun _ => rfl⟩
  · exact ⟨_, cap, hv, fun h => by cases h⟩

/-- a system that was built -/
structure WiS (X Y : World) (sb : Nat) (n : Int) (v : Value) (m : Nat) (L : List Ch.Lk) : Prop where
  c0 : Y.cell? ⟨sb, 0, none⟩ = some (.int .i64 n)
  c1 : Y.cell? ⟨sb, 1, none⟩ = some v
  o : Y.ownsRow X.heap.size 54 3 v m (lkCells L)
  b : Below X.heap.size X Y

/-- a system that nothing was put into -/
structure Sys0 (W : World) (k : Nat) : Prop where
  x0 : W.cell? ⟨k, 0, none⟩ = some (.int .i64 0)
  x1 : W.cell? ⟨k, 1, none⟩ = some (.slice none 0 0)
  x2 : W.frozen? ⟨k, 0, none⟩ = false
  x3 : W.frozen? ⟨k, 1, none⟩ = false
theorem Sys0.below {W W' : World} {k : Nat} (h : Sys0 W k) (hb : Below W.heap.size W W') : Sys0 W' k :=
  ⟨kept1 h.x0 hb, kept1 h.x1 hb, (hb.frozen (p := ⟨k, 0, none⟩) (block_lt_of_cell h.x0)).trans h.x2, (hb.frozen (p := ⟨k, 1, none⟩) (block_lt_of_cell h.x1)).trans h.x3⟩

theorem wis_new {w1 W : World} {n : Int} {v : Value} {m : Nat} {L : List Ch.Lk} (ho : W.ownsRow w1.heap.size 54 3 v m (lkCells L)) (hb : Below w1.heap.size w1 W) : WiS w1 (W.alloc (Obj.cells #[.int .i64 n, v] 24)) W.heap.size n v m L :=
  ⟨by simp [go_sem], by simp [go_sem], ho.alloc _, hb.alloc hb.size _⟩
theorem wis_set {w1 W : World} {base k : Nat} {n : Int} {v : Value} {m : Nat} {L : List Ch.Lk} (h : Sys0 W k) (ho : W.ownsRow base 54 3 v m (lkCells L)) (hk : k < base) (h1 : w1.heap.size ≤ k) (hb : Below w1.heap.size w1 W) : WiS w1 ((W.setCell ⟨k, 0, none⟩ (.int .i64 n)).setCell ⟨k, 1, none⟩ v) k n v m L := by
  have hbut : But (fun g => g = k) W ((W.setCell ⟨k, 0, none⟩ (.int .i64 n)).setCell ⟨k, 1, none⟩ v) := ((But.refl (fun g => g = k) W).setCell (p := ⟨k, 0, none⟩) (.inr rfl) _).setCell (p := ⟨k, 1, none⟩) (.inr rfl) _
  have hx0 := h.x0
  have hx1 := h.x1
  refine ⟨by simp [go_sem, hx0], by simp [go_sem, hx1], owns_base (owns_but ho hbut (fun g hg e => by have := owns_far ho hg; omega)) (by omega), (hb.setCell h1 _).setCell h1 _⟩

set_option maxRecDepth 100000 in
set_option maxHeartbeats 4000000 in
theorem with_any (n : Int) (a b : Option Addr) (m q cap cap2 : Nat) (L L2 : List Ch.Lk) (hm : Hid (L.length = m)) (hq : Hid (L2.length = q)) (ha : Hid (a = none → cap = 0)) (hb : Hid (b = none → cap2 = 0)) (hq9 : q ≤ 1000) (w : World) (hL : Hid (LksAt w a L)) (hL2 : Hid (LksAt w b L2)) :
    Calls Tryz.prog 21 #[sysV n a m cap, .slice b q cap2] w (WiPost w n L L2 (Ch.withE n L L2)) := by
  have HC := Lib.hid fun (W : World) (hb : Below w.heap.size w W) => check_any n a cap L W (hL.out.below hb)
  rw [hm.out] at HC
  have hok := Ch.check_ok (n := n) (L := L)
  obtain ⟨er, her⟩ : ∃ er, Ch.withE n L L2 = er := ⟨_, rfl⟩
  rw [her]
  unfold Ch.withE at her
  obtain ⟨ec, hec⟩ : ∃ ec, (Ch.check n L).1 = ec := ⟨_, rfl⟩
  obtain ⟨at1, hat⟩ : ∃ at1, (Ch.check n L).2 = at1 := ⟨_, rfl⟩
  rw [hec, hat] at HC
  rw [hec] at her hok
  clear hec hat
  replace her := Lib.hid her
  replace hok := Lib.hid hok
  unfold sysV at *
  go_enter Tryz.func21, Tryz.ntmps21
  go_wp2_with fail
  refine (HC.out _ (by repeat (first | with_reducible exact Below.refl _ _ | with_reducible assumption | refine below_drewN ?_ _ | refine Below.drew ?_ | refine Below.alloc ?_ (by first | (simp; done) | (simp; omega) | omega) _ | refine Below.setCell ?_ (by first | (simp; done) | (simp; omega) | omega) _ | refine Below.trans ?_ (Below.mono (by assumption) (by first | (simp; done) | (simp; omega) | omega))))).mono ?_
  rintro e w1 ⟨rfl, hb1⟩
  have k0 : w1.cell? ⟨w.heap.size, 0, none⟩ = some (.int .i64 n) := kept1 (by simp [go_sem]) hb1
  have k1 : w1.cell? ⟨w.heap.size, 1, none⟩ = some (.slice a m cap) := kept1 (by simp [go_sem]) hb1
  have rX : ((w.alloc (Obj.cells #[.int .i64 n, .slice a m cap] 24)).alloc (Obj.cells #[.int .i64 0, .slice none 0 0] 24)).rowIs (w.heap.size + 1) 24 2 (fun i => if i = 0 then .int .i64 0 else .slice none 0 0) := by
    have h := sysRow (X := w.alloc (Obj.cells #[.int .i64 n, .slice a m cap] 24)) (n := 0) (p := none) (m := 0)
    simpa using h
  have rr := Lib.hid (rX.of_block (hb1.block _ rX.lt))
  have r0 := rr.out.cell (i := 0) (by omega)
  have r1 := rr.out.cell (i := 1) (by omega)
  have rz0 := rr.out.frozen 0
  have rz1 := rr.out.frozen 1
  have hB1 : Below w.heap.size w w1 := (by repeat (first | with_reducible exact Below.refl _ _ | with_reducible assumption | refine below_drewN ?_ _ | refine Below.drew ?_ | refine Below.alloc ?_ (by first | (simp; done) | (simp; omega) | omega) _ | refine Below.setCell ?_ (by first | (simp; done) | (simp; omega) | omega) _ | refine Below.trans ?_ (Below.mono (by assumption) (by first | (simp; done) | (simp; omega) | omega))))
  simp only [if_true, Nat.one_ne_zero, if_false] at r0 r1
  clear hb1 rX
  by_cases h0 : ec = 0
  · subst h0
    obtain ⟨n1, n2, hm3, hokk⟩ := hok.out rfl
    have hm4 : m ≤ 300 := by have := hm.out; omega
    have her1 : (if (300 : Int) - m < q then 2 else (Ch.check n (L ++ L2)).1) = er := by have h := her.out; rw [if_neg (by simp), hm.out, hq.out] at h; exact h
    clear her hok hm3 hokk HC
    by_cases hlim : (300 : Int) - m < q
    · have q0 : ((w1.setCell ⟨w.heap.size + 1, 0, none⟩ (.int .i64 0)).setCell ⟨w.heap.size + 1, 1, none⟩ (.slice none 0 0)).cell? ⟨w.heap.size + 1, 0, none⟩ = some (.int .i64 0) := ((rr.out.set 0 _).set 1 _).cell (i := 0) (by omega)
      have q1 : ((w1.setCell ⟨w.heap.size + 1, 0, none⟩ (.int .i64 0)).setCell ⟨w.heap.size + 1, 1, none⟩ (.slice none 0 0)).cell? ⟨w.heap.size + 1, 1, none⟩ = some (.slice none 0 0) := ((rr.out.set 0 _).set 1 _).cell (i := 1) (by omega)
      rw [if_pos hlim] at her1
      subst her1
      have hB2 := (hB1.setCell (p := ⟨w.heap.size + 1, 0, none⟩) (by simp) (.int .i64 0)).setCell (p := ⟨w.heap.size + 1, 1, none⟩) (by simp) (.slice none 0 0)
      go_wp2
      clear r0 r1 rz0 rz1 rr
      generalize (w1.setCell ⟨w.heap.size + 1, 0, none⟩ (.int .i64 0)).setCell ⟨w.heap.size + 1, 1, none⟩ (.slice none 0 0) = W at *
      refine bodyPost_ret (v := (.tuple #[.agg #[.int .i64 0, .slice none 0 0], .int .i64 2])) (by simp [results, Tryz.results21, go_sem, q0, q1]) rfl ?_
      exact ⟨0, _, rfl, fun _ => ⟨rfl, rfl⟩, fun h => absurd h (by decide), hB2⟩
    · rw [if_neg hlim] at her1
      replace her1 := Lib.hid her1
      have hL1 := Lib.hid (hL.out.below hB1)
      have hL21 := Lib.hid (hL2.out.below hB1)
      have HG := fun (W : World) (ab k : Nat) (hW : Below w1.heap.size w1 W) (c0 : W.cell? ⟨ab, 0, none⟩ = some (.slice a m cap)) (c1 : W.cell? ⟨ab, 1, none⟩ = some (.slice b q cap2)) => (concat_any ab a b m q cap cap2 (by omega) (by omega) L L2 hm hq ha hb W (Lib.hid (hL1.out.below hW)) (Lib.hid (hL21.out.below hW)) c0 c1).mono (R' := fun e w' => ∃ p cp, e = .returned (.slice p (m + q) cp) ∧ Hid (w'.ownsRow W.heap.size 54 3 (.slice p (m + q) cp) (m + q) (lkCells (L ++ L2))) ∧ Below w1.heap.size w1 w' ∧ (Sys0 W k → Sys0 w' k)) fun e w' h => by
        obtain ⟨v, he, ho, hb⟩ := h
        obtain ⟨p, cp, hv, _⟩ := owns_slice ho
        subst hv
        exact ⟨p, cp, he, Lib.hid ho, hW.trans (hb.mono hW.size), fun h => h.below hb⟩
      have HA := Lib.hid (HG (((w1.alloc (Obj.cells #[.int .i64 0, .slice none 0 0] 24)).alloc (Obj.cells #[.slice a m cap, .slice b q cap2] 22)).drew) (w1.heap.size + 1) w1.heap.size (by repeat (first | with_reducible exact Below.refl _ _ | with_reducible assumption | refine below_drewN ?_ _ | refine Below.drew ?_ | refine Below.alloc ?_ (by first | (simp; done) | (simp; omega) | omega) _ | refine Below.setCell ?_ (by first | (simp; done) | (simp; omega) | omega) _ | refine Below.trans ?_ (Below.mono (by assumption) (by first | (simp; done) | (simp; omega) | omega)))) (by simp [go_sem]) (by simp [go_sem]))
      have HB := Lib.hid (HG (((w1.alloc (Obj.cells #[.slice a m cap, .slice b q cap2] 22)).alloc (Obj.cells #[.int .i64 0, .slice none 0 0] 24)).drew) w1.heap.size (w1.heap.size + 1) (by repeat (first | with_reducible exact Below.refl _ _ | with_reducible assumption | refine below_drewN ?_ _ | refine Below.drew ?_ | refine Below.alloc ?_ (by first | (simp; done) | (simp; omega) | omega) _ | refine Below.setCell ?_ (by first | (simp; done) | (simp; omega) | omega) _ | refine Below.trans ?_ (Below.mono (by assumption) (by first | (simp; done) | (simp; omega) | omega)))) (by simp [go_sem]) (by simp [go_sem]))
      have HD := Lib.hid (HG ((w1.alloc (Obj.cells #[.slice a m cap, .slice b q cap2] 22)).drew) w1.heap.size 0 (by repeat (first | with_reducible exact Below.refl _ _ | with_reducible assumption | refine below_drewN ?_ _ | refine Below.drew ?_ | refine Below.alloc ?_ (by first | (simp; done) | (simp; omega) | omega) _ | refine Below.setCell ?_ (by first | (simp; done) | (simp; omega) | omega) _ | refine Below.trans ?_ (Below.mono (by assumption) (by first | (simp; done) | (simp; omega) | omega)))) (by simp [go_sem]) (by simp [go_sem]))
      have SA : Sys0 (((w1.alloc (Obj.cells #[.int .i64 0, .slice none 0 0] 24)).alloc (Obj.cells #[.slice a m cap, .slice b q cap2] 22)).drew) w1.heap.size := ⟨by simp [go_sem], by simp [go_sem], by simp [go_sem], by simp [go_sem]⟩
      have SB : Sys0 (((w1.alloc (Obj.cells #[.slice a m cap, .slice b q cap2] 22)).alloc (Obj.cells #[.int .i64 0, .slice none 0 0] 24)).drew) (w1.heap.size + 1) := ⟨by simp [go_sem], by simp [go_sem], by simp [go_sem], by simp [go_sem]⟩
      clear HG
      go_upto_region 6 with fail
      go_cut [8] from 28 to 35 (fun s8 wx => ∃ sb v, s8 = .pointer (some ⟨sb, 0, none⟩) ∧ Hid (WiS w1 wx sb n v (m + q) (L ++ L2)))
      case first =>
        have S0 : w1.drew.cell? ⟨w.heap.size, 0, none⟩ = some (.int .i64 n) ∧ w1.drew.cell? ⟨w.heap.size, 1, none⟩ = some (.slice a m cap) ∧ Below w1.heap.size w1 w1.drew := ⟨k0, k1, (Below.refl _ _).drew⟩
        have S1 : w1.cell? ⟨w.heap.size, 0, none⟩ = some (.int .i64 n) ∧ w1.cell? ⟨w.heap.size, 1, none⟩ = some (.slice a m cap) ∧ Below w1.heap.size w1 w1 := ⟨k0, k1, Below.refl _ _⟩
        clear r0 r1 rz0 rz1 rr
        go_region_held3 (fun w' => w'.cell? ⟨w.heap.size, 0, none⟩ = some (.int .i64 n) ∧ w'.cell? ⟨w.heap.size, 1, none⟩ = some (.slice a m cap) ∧ Below w1.heap.size w1 w')
          (first | with_reducible exact S0 | with_reducible exact keep2 (by assumption) ((Below.refl _ _).alloc (Nat.le_refl _) _) | with_reducible exact keep2 (by assumption) hbp2 | exact keep2 S1 (by repeat (first | with_reducible exact Below.refl _ _ | with_reducible assumption | refine below_drewN ?_ _ | refine Below.drew ?_ | refine Below.alloc ?_ (by first | (simp; done) | (simp; omega) | omega) _ | refine Below.setCell ?_ (by first | (simp; done) | (simp; omega) | omega) _ | refine Below.trans ?_ (Below.mono (by assumption) (by first | (simp; done) | (simp; omega) | omega)))))
          (first
          | (go_at_call 41
             with_reducible refine HA.out.mono ?_
             rintro e wp1 ⟨p, cp, rfl, hown, hbp2, hsy⟩
             have hsy2 := Lib.hid (hsy SA)
             obtain ⟨x0, x1, x2, x3⟩ := hsy SA
             have hsz := hbp2.size
             skip)
          | (go_at_call 41
             with_reducible refine HB.out.mono ?_
             rintro e wp1 ⟨p, cp, rfl, hown, hbp2, hsy⟩
             have hsy2 := Lib.hid (hsy SB)
             obtain ⟨x0, x1, x2, x3⟩ := hsy SB
             have hsz := hbp2.size
             skip)
          | (go_at_call 41
             with_reducible refine HD.out.mono ?_
             rintro e wp1 ⟨p, cp, rfl, hown, hbp2, _⟩
             have hsz := hbp2.size
             skip))
        all_goals go_wp2_with fail
        all_goals go_meet
        all_goals first
          | exact ⟨_, _, rfl, Lib.hid (wis_new (owns_base hown.out (by first | (simp; done) | (simp; omega) | omega)) hbp2)⟩
          | exact ⟨_, _, rfl, Lib.hid (wis_set hsy2.out hown.out (by first | (simp; done) | (simp; omega) | omega) (by first | (simp; done) | (simp; omega) | omega) hbp2)⟩
      case rest =>
        clear HA HB HD SA SB
        generalize wc = Y at hcut ⊢
        clear wc
        obtain ⟨sb, v, rfl, HS⟩ := hcut
        obtain ⟨p, cp, rfl, hp0⟩ := owns_slice HS.out.o
        have y0 := HS.out.c0
        have y1 := HS.out.c1
        have rr2 := Lib.hid (rr.out.of_block (HS.out.b.block _ rr.out.lt))
        have t0 := rr2.out.cell (i := 0) (by omega)
        have t1 := rr2.out.cell (i := 1) (by omega)
        have tz0 := rr2.out.frozen 0
        have tz1 := rr2.out.frozen 1
        simp only [if_true, Nat.one_ne_zero, if_false] at t0 t1
        have hB2 := hB1.trans (HS.out.b.mono hB1.size)
        have hL9 := lks_of_owns (L := L ++ L2) (by rw [List.length_append, hm.out, hq.out]; exact HS.out.o)
        obtain ⟨p', cp', he, hL9⟩ := hL9
        simp only [Value.slice.injEq] at he
        obtain ⟨rfl, hx9, rfl⟩ := he
        clear hx9
        have HC := Lib.hid (check_any n p cp (L ++ L2) Y hL9)
        rw [List.length_append, hm.out, hq.out] at HC
        obtain ⟨ec, hec⟩ : ∃ ec, (Ch.check n (L ++ L2)).1 = ec := ⟨_, rfl⟩
        obtain ⟨at2, hat⟩ : ∃ at2, (Ch.check n (L ++ L2)).2 = at2 := ⟨_, rfl⟩
        rw [hec, hat] at HC
        have h9 : ec = er := by rw [← hec]; exact her1.out
        subst h9
        clear hec hat her1 hL9 k0 k1 r0 r1 rz0 rz1
        unfold sysV at HC
        go_wp2_with fail
        with_reducible refine HC.out.mono ?_
        rintro e w2 ⟨rfl, hb2⟩
        have rr3 := Lib.hid (rr2.out.of_block (hb2.block _ rr2.out.lt))
        have HS2 := Lib.hid (WiS.mk (kept1 y0 hb2) (kept1 y1 hb2) (owns_but (T := fun _ => False) HS.out.o ((But.of_below hb2).mono (fun _ _ h => h)) (fun _ _ h => h)) (HS.out.b.trans (hb2.mono HS.out.b.size)))
        have hB3 := hB2.trans (hb2.mono hB2.size)
        clear HS rr2 t0 t1 tz0 tz1 y0 y1 hb2 hB2 HC
        have y0 := HS2.out.c0
        have y1 := HS2.out.c1
        have t0 := rr3.out.cell (i := 0) (by omega)
        have t1 := rr3.out.cell (i := 1) (by omega)
        have tz0 := rr3.out.frozen 0
        have tz1 := rr3.out.frozen 1
        simp only [if_true, Nat.one_ne_zero, if_false] at t0 t1
        by_cases h0 : ec = 0
        · subst h0
          have hsz1 := hB1.size
          have q0 : ((w2.setCell ⟨w.heap.size + 1, 0, none⟩ (.int .i64 n)).setCell ⟨w.heap.size + 1, 1, none⟩ (.slice p (m + q) cp)).cell? ⟨w.heap.size + 1, 0, none⟩ = some (.int .i64 n) := ((rr3.out.set 0 _).set 1 _).cell (i := 0) (by omega)
          have q1 : ((w2.setCell ⟨w.heap.size + 1, 0, none⟩ (.int .i64 n)).setCell ⟨w.heap.size + 1, 1, none⟩ (.slice p (m + q) cp)).cell? ⟨w.heap.size + 1, 1, none⟩ = some (.slice p (m + q) cp) := ((rr3.out.set 0 _).set 1 _).cell (i := 1) (by omega)
          have hB4 := (hB3.setCell (p := ⟨w.heap.size + 1, 0, none⟩) (by simp) (.int .i64 n)).setCell (p := ⟨w.heap.size + 1, 1, none⟩) (by simp) (.slice p (m + q) cp)
          have hlt := rr.out.lt
          have hown := Lib.hid (owns_base (base' := w.heap.size) (owns_but HS2.out.o (((But.refl (fun g => g = w.heap.size + 1) w2).setCell (p := ⟨w.heap.size + 1, 0, none⟩) (.inr rfl) (.int .i64 n)).setCell (p := ⟨w.heap.size + 1, 1, none⟩) (.inr rfl) (.slice p (m + q) cp)) (fun g hg e => by have := owns_far HS2.out.o hg; omega)) hsz1)
          go_wp2
          clear t0 t1 tz0 tz1 y0 y1 rr3 HS2
          generalize (w2.setCell ⟨w.heap.size + 1, 0, none⟩ (.int .i64 n)).setCell ⟨w.heap.size + 1, 1, none⟩ (.slice p (m + q) cp) = W at *
          refine bodyPost_ret (v := (.tuple #[.agg #[.int .i64 n, .slice p (m + q) cp], .int .i64 0])) (by simp [results, Tryz.results21, go_sem, q0, q1]) rfl ?_
          exact ⟨n, _, rfl, fun h => absurd rfl h, fun _ => ⟨rfl, by rw [hm.out, hq.out]; exact hown.out⟩, hB4⟩
        · have q0 : ((w2.setCell ⟨w.heap.size + 1, 0, none⟩ (.int .i64 0)).setCell ⟨w.heap.size + 1, 1, none⟩ (.slice none 0 0)).cell? ⟨w.heap.size + 1, 0, none⟩ = some (.int .i64 0) := ((rr3.out.set 0 _).set 1 _).cell (i := 0) (by omega)
          have q1 : ((w2.setCell ⟨w.heap.size + 1, 0, none⟩ (.int .i64 0)).setCell ⟨w.heap.size + 1, 1, none⟩ (.slice none 0 0)).cell? ⟨w.heap.size + 1, 1, none⟩ = some (.slice none 0 0) := ((rr3.out.set 0 _).set 1 _).cell (i := 1) (by omega)
          have hB4 := (hB3.setCell (p := ⟨w.heap.size + 1, 0, none⟩) (by simp) (.int .i64 0)).setCell (p := ⟨w.heap.size + 1, 1, none⟩) (by simp) (.slice none 0 0)
          go_wp2
          clear t0 t1 tz0 tz1 rr3 y0 y1
          generalize (w2.setCell ⟨w.heap.size + 1, 0, none⟩ (.int .i64 0)).setCell ⟨w.heap.size + 1, 1, none⟩ (.slice none 0 0) = W at *
          refine bodyPost_ret (v := (.tuple #[.agg #[.int .i64 0, .slice none 0 0], .int .i64 ec])) (by simp [results, Tryz.results21, go_sem, q0, q1]) rfl ?_
          exact ⟨0, _, rfl, fun _ => ⟨rfl, rfl⟩, fun h => absurd h h0, hB4⟩
  · have q0 : ((w1.setCell ⟨w.heap.size + 1, 0, none⟩ (.int .i64 0)).setCell ⟨w.heap.size + 1, 1, none⟩ (.slice none 0 0)).cell? ⟨w.heap.size + 1, 0, none⟩ = some (.int .i64 0) := ((rr.out.set 0 _).set 1 _).cell (i := 0) (by omega)
    have q1 : ((w1.setCell ⟨w.heap.size + 1, 0, none⟩ (.int .i64 0)).setCell ⟨w.heap.size + 1, 1, none⟩ (.slice none 0 0)).cell? ⟨w.heap.size + 1, 1, none⟩ = some (.slice none 0 0) := ((rr.out.set 0 _).set 1 _).cell (i := 1) (by omega)
    have h9 : ec = er := by have h := her.out; rw [if_pos h0] at h; exact h
    subst h9
    have hB2 := (hB1.setCell (p := ⟨w.heap.size + 1, 0, none⟩) (by simp) (.int .i64 0)).setCell (p := ⟨w.heap.size + 1, 1, none⟩) (by simp) (.slice none 0 0)
    go_wp2
    clear r0 r1 rz0 rz1 rr
    generalize (w1.setCell ⟨w.heap.size + 1, 0, none⟩ (.int .i64 0)).setCell ⟨w.heap.size + 1, 1, none⟩ (.slice none 0 0) = W at *
    refine bodyPost_ret (v := (.tuple #[.agg #[.int .i64 0, .slice none 0 0], .int .i64 ec])) (by simp [results, Tryz.results21, go_sem, q0, q1]) rfl ?_
    exact ⟨0, _, rfl, fun _ => ⟨rfl, rfl⟩, fun h => absurd h h0, hB2⟩
end Go.Proofs.YtemacokojdeimaaGreatDoor

/- Package chain, mirrored: the chapter's examples, decided. -/
namespace Ch
def exW : List Lk := exL ++ [⟨1, 0, -6⟩]
theorem fa_en : enough 4 exL [] 40 = true := by decide +kernel
theorem fa_b02 : bound 4 exL 40 0 2 = (8, 0) := by decide +kernel
theorem fa_b03 : bound 4 exL 40 0 3 = (0, 5) := by decide +kernel
theorem fa_ch : chain 4 exL 40 0 2 = some ([0, 1], 0) := by decide +kernel
theorem fa_opn : opn 4 exL [] 40 = 0 := by decide +kernel
theorem fa_tu : enough 4 (turned exL) [] 40 = true := by decide +kernel
theorem fa_gr : greatE 4 exL 40 = 0 := by decide +kernel
theorem fa_lo : least 4 exL 40 = [0, 3, 6, -1152921504606846976] := by decide +kernel
theorem fa_up : greatest 4 exL 40 = [0, 5, 8, 1152921504606846976] := by decide +kernel
theorem fa_sl : slack 4 exL 40 3 = (2, 0) := by decide +kernel
theorem fa_idS : ∀ q, q < 5 → enough 4 exL ((none' 5).set q true) 40 = true ∧ cons 4 exL ((none' 5).set q true) 40 = true := by decide +kernel
theorem fa_id : idleK 4 exL 40 5 = [2] := by decide +kernel
theorem fa_rdS : ∀ c, c < 5 → enough 4 exL ((rd 4 exL 40 c).set (5 - 1 - c) true) 40 = true ∧ cons 4 exL ((rd 4 exL 40 c).set (5 - 1 - c) true) 40 = true := by decide +kernel
theorem fa_rd : reduce 4 exL 40 = ([0, 1, 3, 4], 0) := by decide +kernel
theorem fa_wi : withE 4 exL [⟨1, 0, -6⟩] = 0 := by decide +kernel
theorem fw_en : enough 4 exW [] 40 = true := by decide +kernel
theorem fw_cl : clashE 4 exW 40 = some ([0, 5], 0) := by decide +kernel
theorem fw_co : cons 4 exW [] 40 = false := by decide +kernel
theorem fw_lv : ∀ i, i < 6 → (levels 4 exW ((none' 6).set i true) 40).isSome = true := by decide +kernel
theorem fw_c : clash 4 exW [] = some (some [0, 5]) := by decide +kernel
theorem fw_so : sortI (ints [0, 5]) = ints [0, 5] := by
  unfold sortI
  exact List.mergeSort_of_pairwise (by decide)
theorem fw_su : suspE 4 exW 40 [0, 5] = ([0, 5], 0) := by decide +kernel
theorem fw_ck : checkClash 4 exW (ints [5, 0]) = 0 := by decide +kernel
theorem fw_ck2 : checkClash 4 exW (ints [0, 1]) = 8 := by decide +kernel
end Ch

/- A loop over an iterator that hands out a known list of rows of values (XIt has one value a round). -/
namespace Go.Proofs.YtemacokojdeimaaGreatDoor
open Go.RowKit
attribute [local go_sem] Oper.semAt_some

/-- what an iterator does that hands out the values L, one behind the other, in worlds that keep what it reads -/
def HandsV {α : Type} (enc : α → Array Value) (n : Nat) (P : Program) (gf : Nat) (lb : Array Value) (L : List α) (Keep : World → Prop) (w0 : World) : Prop :=
  ∀ (l : Nat) (J Jx : List α → World → Prop) (W : World), Below w0.heap.size w0 W → AbidesFrom W.heap.size J → (∀ pre W1, J pre W1 → Keep W1) →
    (∀ pre x W1, J pre W1 → pre ++ [x] <+: L → YieldAt Fence.wide (n - 1) P l (enc x) W1 fun e W' =>
      (e = .returned (.bool true) ∧ J (pre ++ [x]) W' ∧ KeepsWalks W1 W') ∨ (e = .returned (.bool false) ∧ Jx (pre ++ [x]) W')) →
    J [] W →
    CallsIn Fence.wide n P gf (#[.func (.yield l) #[] #[]] ++ lb) W fun e W' => (∃ v, e = .returned v) ∧ (J L W' ∨ ∃ pre, pre <+: L ∧ Jx pre W')

variable {P : Program} {n : Nat}

theorem range_nextV {α : Type} {enc : α → Array Value} {g : Operand} {ps : Array Tmp} (hps : ∀ x, (enc x).size = ps.size) {assign body : Code} {Q : Exit → Act → World → Prop} {a : Act} {w : World} (h1 : 1 ≤ n) {gf : Nat} {lb : Array Value}
    (hg : a.eval g = .func (.func gf) #[] lb) (eg : ∀ args w, (callFunc gf args).run P w = .ok (.enter gf args) w) {L : List α} {w0 : World} {Keep : World → Prop} (hseq : HandsV enc (n - 1) P gf lb L Keep w0) (hb0 : Below w0.heap.size w0 w)
    (I : List α → World → Prop) (Ix : List α → World → Prop) (hI : OwnFrom w.heap.size I) (hIx : OwnFrom w.heap.size Ix) (hKeep : ∀ pre W, I pre W → Keep W) (h0 : I [] w) (a₁ : α → Act)
    (hassign : ∀ (l : Nat) (x : α) (W : World) (K : Act → World → Prop), K (a₁ x) W →
      assign.wpIn (Fence.wide.inRound l) (n - 1 - 1) P (Exit.then K (fun _ _ _ => False)) { tmps := (ps.zip (enc x)).foldl (fun t (p, v) => t.setIfInBounds p v) a.tmps, defers := [] } W)
    (hbody : ∀ (l : Nat) (pre : List α) (x : α) (W : World), I pre W → pre ++ [x] <+: L → body.wpIn (Fence.wide.inRound l) (n - 1 - 1) P (fun e _ W' => match e with
      | .normal => KeepsFrom w.heap.size W W' ∧ KeepsWalks W W' ∧ I (pre ++ [x]) W'
      | .ret => KeepsFrom w.heap.size W W' ∧ Ix (pre ++ [x]) W'
      | _ => False) (a₁ x) W)
    (hdone : ∀ (D : Nat) (W : World), w.heap.size ≤ D → I L W → W.heap[D]? = some (.deferred (some [])) → Q .normal { a with defers := { target := .collected D, args := #[] } :: a.defers } W)
    (hstop : ∀ (D : Nat) (pre : List α) (W : World), w.heap.size ≤ D → pre <+: L → Ix pre W → W.heap[D]? = some (.deferred (some [])) → Code.ret.wpIn Fence.wide n P Q { a with defers := { target := .collected D, args := #[] } :: a.defers } W) :
    (Code.rangeFunc g ps assign body).wpIn Fence.wide n P Q a w := by
  refine wpIn_rangeFunc ?_
  intro fn hfn
  obtain ⟨rec, hrec⟩ : ∃ rec : LoopState → Option Code → Loop, rec = fun st pe => { state := st, pending := pe, fn, tmps := a.tmps, params := ps, assign, body, defers := w.heap.size } := ⟨_, rfl⟩
  have hq : ∀ st pe, rec st pe = { state := st, pending := pe, fn, tmps := a.tmps, params := ps, assign, body, defers := w.heap.size } := fun st pe => by rw [hrec]
  clear hrec
  -- the world in which the iterator begins: two new blocks
  obtain ⟨W1, hW1⟩ : ∃ W1, (w.alloc (.deferred (some []))).alloc (.loop (rec .ready none)) = W1 := ⟨_, rfl⟩
  have hz : w.heap.size + 1 + 1 ≤ W1.heap.size := by rw [← hW1]; simp
  have start : Held rec w.heap.size .ready none (I [] W1) W1 := by
    refine ⟨?_, ?_, ?_⟩
    · rw [← hW1]; exact hI.alloc _ (hI.alloc _ h0)
    · have := World.alloc_heap_new (w.alloc (.deferred (some []))) (.loop (rec .ready none))
      rw [World.size_alloc] at this
      rw [← hW1]; exact this
    · rw [← hW1]; exact (Below.heap_alloc _ _ _ (by simp)).trans (World.alloc_heap_new w _)
  have hb1 : Below w0.heap.size w0 W1 := by
    rw [← hW1]; exact hb0.trans ((((Below.refl _ w).alloc (Nat.le_refl _) _).alloc (by simp) _).mono hb0.size)
  refine ⟨w.heap.size + 1, [{ target := .collected w.heap.size, args := #[] }], W1, { target := .fn (.func gf) lb, args := #[.func (.yield (w.heap.size + 1)) #[] #[]] }, W1, gf, #[.func (.yield (w.heap.size + 1)) #[] #[]] ++ lb, W1,
    by rw [← hW1, hq]; exact run_enterLoop_outer _ _ _ _ _, by simp only [resolve, hg]; simp [go_sem], fun _ _ => trivial, by simp [invoke, go_sem, eg], fun _ => h1, ?_⟩
  clear hW1 h0 hb0
  -- what the caller keeps abides the iterator's own steps
  have far : ∀ {A : World} {row : Option Nat}, (∀ r, row = some r → W1.heap.size ≤ r ∧ ∃ o : Obj, A.heap[r]? = some o ∧ o.isWalk = true) → ∀ r, row = some r → w.heap.size ≤ r ∧ ∃ o : Obj, A.heap[r]? = some o ∧ o.isCells = false := by
    intro A row hr r e
    obtain ⟨h2, o, h3, h4⟩ := hr r e
    exact ⟨by omega, o, h3, Obj.not_cells_of_walk h4⟩
  have abide : ∀ (K : List α → World → Prop), OwnFrom w.heap.size K → ∀ st pe, AbidesFrom W1.heap.size fun pre W => Held rec w.heap.size st pe (K pre W) W := by
    intro K hK st pe p A B row hs hgr hr
    have keep := fun {k : Nat} {o : Obj} (h : A.heap[k]? = some o) (ho : o.isWalk = false) => (grownBy_keeps hgr (fun r e => (hr r e).2) h ho).trans h
    exact ⟨hK p A B row hs.own hgr (far hr), keep hs.loop rfl, keep hs.defs rfl⟩
  -- a turn of the loop's own record
  have turn : ∀ (K : List α → World → Prop), OwnFrom w.heap.size K → ∀ pre W st pe st' pe', Held rec w.heap.size st pe (K pre W) W → Held rec w.heap.size st' pe' (K pre (W.putObj (w.heap.size + 1) (.loop (rec st' pe')))) (W.putObj (w.heap.size + 1) (.loop (rec st' pe'))) := by
    intro K hK pre W st pe st' pe' h
    exact ⟨hK.putObj _ h.own (by omega) h.loop rfl, World.putObj_heap_same (Array.getElem?_eq_some_iff.1 h.loop).1, (World.putObj_heap_other (by omega)).trans h.defs⟩
  refine (hseq (w.heap.size + 1) (fun pre W => Held rec w.heap.size .ready none (I pre W) W) (fun pre W => Held rec w.heap.size .done (some .ret) (Ix pre W) W) W1 hb1 (abide I hI _ _) (fun pre W1 h => hKeep pre W1 h.own) ?_ start).mono ?_
  · intro pre x W h hpre
    have hy := run_yield (P := P) (args := (enc x)) h.loop (by rw [hq]; exact hps x)
    rw [hq] at hy
    have h2 := turn I hI pre W .ready none .busy none h
    have hbr := run_beginRound (P := P) h.loop (by rw [hq])
    refine ⟨fn, _, assign, body, hy, roundIn_of_wpIn hfn (hassign _ x W _ ⟨_, hbr, ?_⟩)⟩
    have e2 : ({ rec .ready none with state := .busy } : Loop) = rec .busy none := by rw [hq, hq]
    rw [e2]
    have k2 : KeepsWalks W (W.putObj (w.heap.size + 1) (.loop (rec .busy none))) := KeepsWalks.putObj _ h.loop rfl
    refine wpIn_mono (hbody _ pre x _ h2.own hpre) ?_
    intro e a3 W3 hp
    cases e with
    | normal =>
      obtain ⟨hk3, hw3, hi3⟩ := hp
      have h3 : Held rec w.heap.size .busy none (I (pre ++ [x]) W3) W3 := ⟨hi3, hk3.same _ _ (by omega) h2.loop rfl, hk3.same _ _ (Nat.le_refl _) h2.defs rfl⟩
      have hr := run_endRound (P := P) none h3.loop
      have e3 : ({ rec .busy none with state := if (none : Option Code).isNone then .ready else .done, pending := none } : Loop) = rec .ready none := by rw [hq, hq]; rfl
      rw [e3] at hr
      exact ⟨_, _, hr, .inl ⟨rfl, turn I hI _ _ _ _ _ _ h3, (k2.trans hw3).trans (KeepsWalks.putObj _ h3.loop rfl)⟩⟩
    | ret =>
      obtain ⟨hk3, hi3⟩ := hp
      have h3 : Held rec w.heap.size .busy none (Ix (pre ++ [x]) W3) W3 := ⟨hi3, hk3.same _ _ (by omega) h2.loop rfl, hk3.same _ _ (Nat.le_refl _) h2.defs rfl⟩
      have hr := run_endRound (P := P) (some .ret) h3.loop
      have e3 : ({ rec .busy none with state := if (some Code.ret : Option Code).isNone then .ready else .done, pending := some .ret } : Loop) = rec .done (some .ret) := by rw [hq, hq]; rfl
      rw [e3] at hr
      exact ⟨_, _, hr, .inr ⟨rfl, turn Ix hIx _ _ _ _ _ _ h3⟩⟩
    | exit id => exact hp.elim
    | goto t => exact hp.elim
    | panic ch => exact hp.elim
    | outgrown => exact hp.elim
  · rintro e W2 ⟨⟨v, rfl⟩, h | ⟨pre, hpre, h⟩⟩
    · have hr := run_endLoop (P := P) h.loop (by rw [hq]; simp)
      have e3 : ({ rec .ready none with state := .exhausted } : Loop) = rec .exhausted none := by rw [hq, hq]
      rw [e3] at hr
      have h3 := turn I hI _ _ _ _ .exhausted none h
      exact ⟨none, _, by rw [hr, hq], hdone _ _ (Nat.le_refl _) h3.own h3.defs⟩
    · have hr := run_endLoop (P := P) h.loop (by rw [hq]; simp)
      have h3 := turn Ix hIx _ _ _ _ .exhausted (some .ret) h
      have e3 : ({ rec .done (some .ret) with state := .exhausted } : Loop) = rec .exhausted (some .ret) := by rw [hq, hq]
      rw [e3] at hr
      exact ⟨some .ret, _, by rw [hr, hq], hstop _ pre _ (Nat.le_refl _) hpre h3.own h3.defs⟩

end Go.Proofs.YtemacokojdeimaaGreatDoor

/- Contracts of package chain: slices.Backward of links. -/
namespace Go.Proofs.YtemacokojdeimaaGreatDoor
open Go.RowKit
attribute [local go_sem] Oper.semAt_some

theorem backward_any (a : Option Addr) (m cap : Nat) (w : World) :
    Calls Tryz.prog 40 #[.slice a m cap] w fun e w' => e = .returned (.func (.func 65) #[] #[.pointer (some ⟨w.heap.size, 0, none⟩)]) ∧ w' = w.alloc (.cells #[.slice a m cap] 22) := by
  have hmf : ∀ (fn : Fn) (first cap : Array Value) (w : World), (Instr.makeFunc fn first cap).run Tryz.prog w = .ok (.func fn first cap) w := fun _ _ _ _ => rfl
  go_enter Tryz.func40, Tryz.ntmps40
  go_wp2
  go_ret
  exact ⟨rfl, rfl⟩

/-- what Backward hands out: the last c links with their indices, the last one first -/
def bw (L : List Ch.Lk) (c : Nat) : List (Nat × Ch.Lk) := (List.range c).map fun j => (L.length - 1 - j, L.getD (L.length - 1 - j) Ch.noLk)
theorem bw_next (L : List Ch.Lk) (c : Nat) : bw L (c + 1) = bw L c ++ [(L.length - 1 - c, L.getD (L.length - 1 - c) Ch.noLk)] := by
  unfold bw
  rw [List.range_succ, List.map_append]
  rfl
theorem bw_len (L : List Ch.Lk) (c : Nat) : (bw L c).length = c := by unfold bw; simp
theorem bw_take (L : List Ch.Lk) {c : Nat} (h : c ≤ L.length) : bw L c = (bw L L.length).take c := by
  unfold bw
  rw [← List.map_take, List.take_range, Nat.min_eq_left h]
theorem bw_pre (L : List Ch.Lk) {c : Nat} (h : c ≤ L.length) : bw L c <+: bw L L.length := by
  rw [bw_take L h]; exact List.take_prefix _ _

/-- what the iterator reads -/
structure BK (bb m cap : Nat) (a : Option Addr) (L : List Ch.Lk) (W : World) : Prop where
  c : W.cell? ⟨bb, 0, none⟩ = some (.slice a m cap)
  l : LksAt W a L
def bwV (x : Nat × Ch.Lk) : Array Value := #[.int .i64 (x.1 : Int), lkV x.2]

set_option maxRecDepth 100000 in
set_option maxHeartbeats 2000000 in
theorem backward1_in (q : Nat) (hq : 2 ≤ q) (l bb m cap : Nat) (a : Option Addr) (L : List Ch.Lk) (hm : Hid (L.length = m)) (hm3 : m ≤ 300) (J Jx : List (Nat × Ch.Lk) → World → Prop)
    (hK : ∀ pre W, J pre W → BK bb m cap a L W)
    (hY : ∀ pre x W, J pre W → pre ++ [x] <+: bw L L.length → YieldAt Fence.wide (q - 1) Tryz.prog l (bwV x) W fun e W' =>
      (e = .returned (.bool true) ∧ J (pre ++ [x]) W' ∧ KeepsWalks W W') ∨ (e = .returned (.bool false) ∧ Jx (pre ++ [x]) W'))
    (W : World) (hA : AbidesFrom W.heap.size J) (h0 : J [] W) :
    CallsIn Fence.wide q Tryz.prog 65 #[.func (.yield l) #[] #[], .pointer (some ⟨bb, 0, none⟩)] W fun e W' => (∃ v, e = .returned v) ∧ (J (bw L L.length) W' ∨ ∃ pre, pre <+: bw L L.length ∧ Jx pre W') := by
  have hn1 : 1 ≤ q := by omega
  obtain ⟨e2, _⟩ := hK _ _ h0
  refine callsIn_of_wp Tryz.func65 rfl trivial ?_ rfl
  simp only [Tryz.ntmps65, List.size_toArray, List.length_cons, List.length_nil, Nat.reduceAdd, Nat.reduceSub, Array.replicate_succ, Array.replicate_zero, List.push_toArray, List.append_toArray, List.nil_append, List.cons_append]
  gi_wp2
  gi_loopw [3] (fun i wr => ∃ c : Nat, c ≤ m ∧ i = .int .i64 ((m : Int) - 1 - (c : Int)) ∧ J (bw L c) wr) (fun i _ => (RowKit.intOf i + 1).toNat)
  case atStart => exact ⟨0, Nat.zero_le _, by go_num, h0⟩
  case round =>
    obtain ⟨c, hc, rfl, hJs⟩ := hrel
    clear e2
    by_cases hlt : c < m
    · obtain ⟨k, hk⟩ : ∃ k : Nat, (m : Int) - 1 - (c : Int) = (k : Int) := ⟨m - 1 - c, by omega⟩
      rw [hk]
      obtain ⟨e2, hl⟩ := hK _ _ hJs
      have hk2 : k = L.length - 1 - c := by have := hm.out; omega
      obtain ⟨y, rfl, hl3⟩ := hl k (by have := hm.out; omega)
      have hnx := Lib.hid (bw_next L c)
      have hpre := Lib.hid (bw_pre L (c := c + 1) (by have := hm.out; omega))
      rw [← hk2] at hnx
      obtain ⟨f, t, mo, hlk⟩ : ∃ f t mo, L.getD k Ch.noLk = ⟨f, t, mo⟩ := ⟨_, _, _, rfl⟩
      have ⟨q0, q1, q2⟩ := hl3
      rw [hlk] at q0 q1 q2 hnx
      simp only at q0 q1 q2
      have hp2 := hpre.out
      rw [hnx.out] at hp2
      obtain ⟨fn, tmps, assign, body, hy, hR⟩ := hY _ _ wr hJs hp2
      simp only [lkV, bwV] at hy
      have hi5 : (0 : Int) ≤ (k : Int) := by omega
      have hi6 : (k : Int) < (m : Int) := by omega
      replace hk := Lib.hid hk
      replace hk2 := Lib.hid hk2
      clear hl3 hl hY hlk hp2 h0 hA hK
      gi_wp2
      refine hR.mono ?_
      rintro e W3 (⟨rfl, hJ3, hk3⟩ | ⟨rfl, hJx3⟩)
      · gi_wp2
        go_roundw
        case rel => exact ⟨c + 1, by omega, by have := hk.out; go_num, by rw [hnx.out]; exact hJ3⟩
        case measure => (have := hk.out; first | (simp [RowKit.intOf]; done) | (simp [RowKit.intOf]; omega))
      · gi_wp2
        refine bodyPost_ret (results_none rfl _ _ _) rfl ?_
        exact ⟨⟨_, rfl⟩, .inr ⟨_, by have := hpre.out; rw [hnx.out] at this; exact this, hJx3⟩⟩
    · obtain rfl : c = m := by omega
      have hneg : ¬ (0 : Int) ≤ (c : Int) - 1 - (c : Int) := by omega
      gi_wp2
      go_end0
      refine ⟨⟨_, rfl⟩, .inl ?_⟩
      rw [hm.out]
      exact hJs

theorem backward_hands (q : Nat) (hq : 2 ≤ q) (bb m cap : Nat) (a : Option Addr) (L : List Ch.Lk) (hm : L.length = m) (hm3 : m ≤ 300) (w : World) :
    HandsV bwV q Tryz.prog 65 #[.pointer (some ⟨bb, 0, none⟩)] (bw L L.length) (BK bb m cap a L) w := fun l J Jx W _ hA hK hY h0 =>
  backward1_in q hq l bb m cap a L (Lib.hid hm) hm3 J Jx hK hY W hA h0
end Go.Proofs.YtemacokojdeimaaGreatDoor

/- Contracts of package chain: Reduce. -/
namespace Go.Proofs.YtemacokojdeimaaGreatDoor
open Go.RowKit
attribute [local go_sem] Oper.semAt_some

theorem bw_at {L : List Ch.Lk} {pre : List (Nat × Ch.Lk)} {x : Nat × Ch.Lk} (h : pre ++ [x] <+: bw L L.length) : pre.length < L.length ∧ x.1 = L.length - 1 - pre.length := by
  have h1 := pre_last h
  have h2 : pre.length < (bw L L.length).length := (List.getElem?_eq_some_iff.1 h1).1
  rw [bw_len] at h2
  refine ⟨h2, ?_⟩
  unfold bw at h1
  rw [List.getElem?_map, List.getElem?_range h2] at h1
  simp only [Option.map_some, Option.some.injEq] at h1
  rw [← h1]

theorem keeps_but {W W' : World} {db m : Nat} {f : Nat → Value} {T : TypeId} (h : But (fun k => k = db) W W') (hd : W.rowIs db T m f) : KeepsOthers W W' :=
  ⟨h.size, fun k o hk ho => by
    have hne : ¬ k = db := fun e => by
      obtain ⟨cs, h1, _⟩ := hd
      rw [e, h1] at hk
      obtain rfl := Option.some.inj hk
      cases ho
    exact (h.block k (Array.getElem?_eq_some_iff.1 hk).1 hne).trans hk⟩

/-- the world in Reduce's first loop -/
structure RD (w1 W : World) (S gb ib db n m : Nat) (a : Option Addr) (cap : Nat) (V : Nat → Value) (L : List Ch.Lk) (D : Nat → Bool) (b4 bb : Nat) : Prop where
  g : Gr W w1.heap.size gb ib db n m a cap V L D
  b : But (fun k => k = db) w1 W
  c4 : W.cell? ⟨b4, 0, none⟩ = some (.pointer (some ⟨gb, 0, none⟩))
  cb : W.cell? ⟨bb, 0, none⟩ = some (.slice a m cap)
  h4 : b4 ≠ db
  hb : bb ≠ db
  hS : w1.heap.size ≤ S
theorem RD.grown {w1 W W' : World} {S gb ib db n m : Nat} {a : Option Addr} {cap : Nat} {V : Nat → Value} {L : List Ch.Lk} {D : Nat → Bool} {b4 bb : Nat} (h : RD w1 W S gb ib db n m a cap V L D b4 bb) {row : Option Nat} (hg : W.grownBy W' row) (hr : ∀ r, row = some r → S ≤ r ∧ ∃ o : Obj, W.heap[r]? = some o ∧ o.isCells = false) : RD w1 W' S gb ib db n m a cap V L D b4 bb := by
  have hr2 : ∀ r, row = some r → ∃ o : Obj, W.heap[r]? = some o ∧ o.isCells = false := fun r e => (hr r e).2
  have hbl : Below w1.heap.size W W' := (but_grown hg).below h.g.hH (fun k hk e => by have := (hr k e).1; have := h.hS; omega)
  exact ⟨h.g.below hbl, ⟨hbl.os.trans h.b.os, hbl.tape.trans h.b.tape, hbl.output.trans h.b.output, Nat.le_trans h.b.size hbl.size, fun k hk hn => (hbl.block k hk).trans (h.b.block k hk hn)⟩, cell_grown hg hr2 h.c4, cell_grown hg hr2 h.cb, h.h4, h.hb, h.hS⟩
theorem RD.marked {w1 W W' : World} {S gb ib db n m : Nat} {a : Option Addr} {cap : Nat} {V : Nat → Value} {L : List Ch.Lk} {D D' : Nat → Bool} {b4 bb : Nat} (h : RD w1 W S gb ib db n m a cap V L D b4 bb) (hA : Ap gb ib db n m a V) (hb : But (fun k => k = db) W W') (hd : W'.rowIs db 4 m (fun k => .bool (D' k))) : RD w1 W' S gb ib db n m a cap V L D' b4 bb :=
  ⟨h.g.redrop hA hb hd, h.b.trans hb, (hb.cell (block_lt_of_cell h.c4) h.h4).trans h.c4, (hb.cell (block_lt_of_cell h.cb) h.hb).trans h.cb, h.h4, h.hb, h.hS⟩

/-- a list of one's own, and nothing else -/
structure IL (Z W : World) (cv : Value) (pre : List Nat) : Prop where
  o : W.ownsRow Z.heap.size 3 1 cv pre.length (pre.map fun i : Nat => Value.int .i64 (i : Int))
  b : Below Z.heap.size Z W

theorem rd_own (w1 : World) (S gb ib db n m : Nat) (a : Option Addr) (cap : Nat) (V : Nat → Value) (L : List Ch.Lk) (F : Nat → Nat → Bool) (b4 bb : Nat) : OwnFrom S (fun (pre : List (Nat × Ch.Lk)) W => RD w1 W S gb ib db n m a cap V L (F pre.length) b4 bb) :=
  fun _ _ _ _ h hg hr => h.grown hg hr

set_option maxRecDepth 100000 in
set_option maxHeartbeats 4000000 in
theorem reduce_any (n : Int) (a : Option Addr) (cap : Nat) (L : List Ch.Lk) (k : Nat) (hE : (Ch.check n L).1 = 0 → Ch.enough n.toNat L [] k = true) (hS : Ch.opn n L [] k = 0 → ∀ c, c < L.length → Ch.enough n.toNat L ((Ch.rd n.toNat L k c).set (L.length - 1 - c) true) k = true ∧ Ch.cons n.toNat L ((Ch.rd n.toNat L k c).set (L.length - 1 - c) true) k = true) (l : List Nat) (er : Int) (hR : Ch.reduce n L k = (l, er)) (w : World) (hL : LksAt w a L) :
    Calls Tryz.prog 19 #[sysV n a L.length cap] w (ChPost w l er) := by
  obtain ⟨i0, hi, hz0, hz1, hz2⟩ := info_parts infoInt
  have hB0 : Below w.heap.size w (w.alloc (Obj.cells #[.int .i64 n, .slice a L.length cap] 24)) := below_alloc (Below.refl _ _) _
  have HO := open_any n a cap L none 0 [] (by simp) k hE _ (hL.below hB0) (fun k hk => absurd hk (by simp))
  have hok := Ch.opn_ok (n := n) (L := L) (l := []) (k := k)
  unfold Ch.reduce at hR
  obtain ⟨ec, hec⟩ : ∃ ec, Ch.opn n L [] k = ec := ⟨_, rfl⟩
  rw [hec] at HO hok hS hR
  replace HO := Lib.hid HO
  replace hok := Lib.hid hok
  replace hR := Lib.hid hR
  replace hS := Lib.hid hS
  unfold sysV at *
  clear hec
  refine (callsIn_wide (n := 7)).1 ?_
  refine callsIn_of_wp_marks Tryz.func19 rfl trivial ?_ rfl
  simp only [Tryz.ntmps19, List.size_toArray, List.length_cons, List.length_nil, Nat.reduceAdd, Nat.reduceSub, Array.replicate_succ, Array.replicate_zero, List.push_toArray, List.append_toArray, List.nil_append, List.cons_append]
  gi_wp2_with fail
  refine ⟨trivial, ?_⟩
  refine (callsIn_wide.2 HO.out).mono ?_
  rintro e w1 ⟨hb, h⟩
  have hB := hB0.trans (hb.mono (by simp))
  clear hb hB0 HO
  rcases h with ⟨hne, rfl⟩ | ⟨rfl, gb, ib, db, V, hge, rfl, hG, hAp, hdb0⟩
  · have h := hR.out
    rw [if_pos hne] at h
    obtain ⟨rfl, rfl⟩ := Prod.mk.inj h
    clear h hR hok hS
    gi_wp2_with fail
    refine leaves_marks [] _ List.nodup_nil (fun _ h => by cases h) ?_
    exact ⟨_, by simp [results, Tryz.results19, go_sem], _, rfl, World.ownsRow_nil _ _ _ _, hB.alloc hB.size _⟩
  · have h := hR.out
    rw [if_neg (by simp)] at h
    obtain ⟨hl9, rfl⟩ := Prod.mk.inj h
    obtain ⟨hc0, _, hcon⟩ := hok.out rfl
    have hSq := hS.out rfl
    obtain ⟨n1, n2, hm3, _⟩ := Ch.check_ok hc0
    obtain ⟨N, rfl⟩ : ∃ N : Nat, n = (N : Int) := ⟨n.toNat, by omega⟩
    simp only [Int.toNat_natCast] at *
    have hdb : w.heap.size ≤ db := by simp at hdb0; omega
    have hG0 : Gr w1 w1.heap.size gb ib db N L.length a cap V L (fun i => (Ch.none' L.length).getD i false) := by
      have e : (fun i => (Ch.none' L.length).getD i false) = (fun i => ([] : List Bool).getD i false) := by funext i; rw [Ch.none_get]; rfl
      rw [e]; exact hG
    replace hG0 := Lib.hid hG0
    replace hAp := Lib.hid hAp
    replace hSq := Lib.hid hSq
    replace hl9 := Lib.hid hl9
    have g1 : (w1.alloc (Obj.cells #[.pointer (some ⟨gb, 0, none⟩)] 67)).cell? ⟨gb, 1, none⟩ = some (.slice a L.length cap) := cell_alloc (hG0.out.g.cell (i := 1) (by omega)) _
    clear hok hS hE hcon hc0 hG hR h
    gi_wp2_with fail
    refine ⟨trivial, ?_⟩
    refine (callsIn_wide.2 (backward_any a L.length cap _)).mono ?_
    rintro e w3 ⟨rfl, rfl⟩
    have b40 : ((w1.alloc (Obj.cells #[.pointer (some ⟨gb, 0, none⟩)] 67)).alloc (Obj.cells #[.slice a L.length cap] 22)).cell? ⟨w1.heap.size, 0, none⟩ = some (.pointer (some ⟨gb, 0, none⟩)) := by simp [go_sem]
    have bb0 : ((w1.alloc (Obj.cells #[.pointer (some ⟨gb, 0, none⟩)] 67)).alloc (Obj.cells #[.slice a L.length cap] 22)).cell? ⟨w1.heap.size + 1, 0, none⟩ = some (.slice a L.length cap) := by simp [go_sem]
    have ez : (w1.alloc (Obj.cells #[.pointer (some ⟨gb, 0, none⟩)] 67)).heap.size = w1.heap.size + 1 := by simp
    have eb : Below w1.heap.size w1 ((w1.alloc (Obj.cells #[.pointer (some ⟨gb, 0, none⟩)] 67)).alloc (Obj.cells #[.slice a L.length cap] 22)) := below_alloc (below_alloc (Below.refl _ _) _) _
    have hdw : db < w1.heap.size := hG0.out.hd
    rw [ez] at *
    have hRD := Lib.hid (RD.mk (S := ((w1.alloc (Obj.cells #[.pointer (some ⟨gb, 0, none⟩)] 67)).alloc (Obj.cells #[.slice a L.length cap] 22)).heap.size) (hG0.out.below eb) (.of_below eb) b40 bb0 (by omega) (by omega) eb.size)
    clear g1 b40 bb0 ez eb hG0
    generalize (w1.alloc (Obj.cells #[.pointer (some ⟨gb, 0, none⟩)] 67)).alloc (Obj.cells #[.slice a L.length cap] 22) = X2 at *
    gi_wp2_with fail
    refine range_nextV (enc := bwV) (n := 7) (hps := fun _ => rfl) (by omega) (gf := 65) (lb := #[.pointer (some ⟨w1.heap.size + 1, 0, none⟩)]) rfl (enters_of Tryz.func65 (by kernel_rfl) rfl)
      (backward_hands 6 (by omega) (w1.heap.size + 1) L.length cap a L rfl hm3 X2) (Below.refl _ _)
      (fun (pre : List (Nat × Ch.Lk)) W => RD w1 W X2.heap.size gb ib db N L.length a cap V L (fun i => (Ch.rd N L k pre.length).getD i false) w1.heap.size (w1.heap.size + 1)) (fun _ _ => False) (rd_own w1 _ gb ib db N L.length a cap V L (fun c i => (Ch.rd N L k c).getD i false) _ _) (fun _ _ _ _ h _ _ => h) ?keep hRD.out ?a1 ?assign ?body ?done ?stop
    case keep =>
      intro pre W h
      exact ⟨h.cb, fun k hk => by
        obtain ⟨x, hx, _, h2⟩ := h.g.l k hk
        exact ⟨x, hx, h2⟩⟩
    case assign =>
      intro l x W K' hK'
      simp only [bwV] at hK' ⊢
      gi_wp2
      exact hK'
    case stop => exact fun _ _ _ _ _ h _ => h.elim
    case body =>
      rintro l pre ⟨i, xl⟩ W hI hpre
      obtain ⟨hlt, hx⟩ := bw_at hpre
      simp only at hx
      have hget : (Ch.rd N L k pre.length).getD i false = false := Ch.rd_off N L k pre.length i (by omega)
      have hsq := hSq.out pre.length hlt
      rw [← hx] at hsq
      have hhit := Ch.rd_hit (n := N) (L := L) (k := k) (c := pre.length)
      have hmiss := Ch.rd_miss (n := N) (L := L) (k := k) (c := pre.length)
      rw [← hx] at hhit hmiss
      have HSp := Lib.hid (spares_any N gb w1.heap.size ib db L.length (by omega) (by omega) a cap V L (Ch.rd N L k pre.length) i (by omega) (Ch.rd_len _ _ _ _) hget k hsq.1 hsq.2 W (Lib.hid hI.g) hAp)
      have c4 := hI.c4
      have hsnoc : (pre ++ [(i, xl)]).length = pre.length + 1 := by simp
      have hiL : i < L.length := by omega
      replace hI := Lib.hid hI
      replace hsnoc := Lib.hid hsnoc
      clear hx hget hsq hSq hpre hRD hl9
      cases hsp : Ch.spares N L (Ch.rd N L k pre.length) k i
      · rw [hsp] at HSp
        have hms := Lib.hid (hmiss hsp)
        clear hsp hmiss hhit
        gi_wp2_with fail
        refine ⟨trivial, ?_⟩
        refine (CallsIn.inRound _ (callsIn_wide.2 HSp.out)).mono ?_
        rintro e w2 ⟨rfl, hb2, hd2⟩
        have hk1 := keeps_but hb2 hI.out.g.d
        have HI2 := Lib.hid (hI.out.marked hAp.out hb2 hd2)
        clear hb2 hd2 HSp hI c4
        gi_wp2
        exact ⟨hk1.from _, hk1.walks, by have h := HI2.out; rw [← hms.out] at h; exact h⟩
      · rw [hsp] at HSp
        have hht := Lib.hid (hhit hsp)
        clear hsp hmiss hhit
        gi_wp2_with fail
        refine ⟨trivial, ?_⟩
        refine (CallsIn.inRound _ (callsIn_wide.2 HSp.out)).mono ?_
        rintro e w2 ⟨rfl, hb2, hd2⟩
        have hk1 := keeps_but hb2 hI.out.g.d
        have HI2 := Lib.hid (hI.out.marked hAp.out hb2 hd2)
        have c42 := HI2.out.c4
        have e3 : w2.cell? ⟨gb, 3, none⟩ = some (.slice (some ⟨db, 0, none⟩) L.length L.length) := HI2.out.g.g.cell (i := 3) (by omega)
        have ed : w2.cell? ⟨db, i, none⟩ = some (.bool ((Ch.rd N L k pre.length).getD i false)) := HI2.out.g.d.cell (i := i) hiL
        have ef := HI2.out.g.d.frozen i
        have hb3 : But (fun k => k = db) w2 (w2.setCell ⟨db, i, none⟩ (.bool true)) := (But.refl (fun k => k = db) w2).setCell (p := ⟨db, i, none⟩) (.inr rfl) _
        have hrow : (w2.setCell ⟨db, i, none⟩ (.bool true)).rowIs db 4 L.length (fun q => .bool (((Ch.rd N L k pre.length).set i true).getD q false)) := (HI2.out.g.d.set i (.bool true)).congr (fun q hq => by rw [drop_get (Ch.rd_len _ _ _ _) hq]; split <;> rfl)
        have hk2 := hk1.trans (keeps_but hb3 HI2.out.g.d)
        have HI3 := Lib.hid (HI2.out.marked hAp.out hb3 hrow)
        have i1 : (0 : Int) ≤ (i : Int) := by omega
        have i2 : (i : Int) < (L.length : Int) := by omega
        generalize (Ch.rd N L k pre.length).getD i false = old at ed
        clear hb2 hd2 HSp hI c4 hk1 HI2 hb3 hrow
        gi_wp2
        exact ⟨hk2.from _, hk2.walks, by have h := HI3.out; rw [← hht.out] at h; exact h⟩
    case done =>
      intro E W hE hI hD
      have hI' : RD w1 W X2.heap.size gb ib db N L.length a cap V L (fun i => (Ch.rd N L k L.length).getD i false) w1.heap.size (w1.heap.size + 1) := by
        have h := hI
        rw [bw_len] at h
        exact h
      have hEX : w.heap.size ≤ E := Nat.le_trans (Nat.le_trans hB.size hRD.out.hS) hE
      have c4 := hI'.c4
      have e3 : W.cell? ⟨gb, 3, none⟩ = some (.slice (some ⟨db, 0, none⟩) L.length L.length) := hI'.g.g.cell (i := 3) (by omega)
      have hd := Lib.hid hI'.g.d
      have hBW := hB.trans (hI'.b.below hB.size (fun k hk e => by omega))
      have hlen := Lib.hid (Ch.leftK_len (Ch.rd N L k L.length))
      obtain ⟨D, hDD⟩ : ∃ D, Ch.rd N L k L.length = D := ⟨_, rfl⟩
      rw [hDD] at hd hl9 hlen
      have hEs : E < W.heap.size := (Array.getElem?_eq_some_iff.1 hD).1
      have hIL0 := Lib.hid (IL.mk (Z := W) (W := W) (cv := .slice none 0 0) (pre := []) (World.ownsRow_nil _ _ _ _) (Below.refl _ _))
      replace hD := Lib.hid hD
      clear hI hI' hDD hRD hSq hAp hB
      gi_wp2
      gi_loopw [39, 7] (fun x cv wr => ∃ j : Nat, j ≤ L.length ∧ x = .int .i64 (j : Int) ∧ Hid (IL W wr cv (Ch.leftK D j))) (fun x _ _ => L.length - (RowKit.intOf x).toNat)
      case atStart => exact ⟨0, Nat.zero_le _, rfl, hIL0⟩
      case round =>
        clear hIL0 c4 e3
        obtain ⟨j, hj, rfl, HI⟩ := hrel
        by_cases hlt : j < L.length
        · have hi5 : (j : Int) < (L.length : Int) := by omega
          have hi6 : (0 : Int) ≤ (j : Int) := by omega
          have cd := (Below.row HI.out.b hd.out).cell (i := j) hlt
          cases hdj : D.getD j false
          · rw [hdj] at cd
            have hht := Lib.hid (Ch.leftK_hit hdj)
            have hlj := hlen.out j
            have hown := Lib.hid HI.out.o
            have hsz := HI.out.b.size
            clear hdj
            gi_wp2_with (first
              | (gi_at_builtin; refine wpListIn_append_own _ rfl (.tmp 46) (.tmp 48) 41 rfl W.heap.size 3 i0 (.int .i64 0) 1 8 Tryz.underlying41 hi hz0 hz1 hz2 rfl (by decide) _ _ _ rfl (hown.out.alloc _) ⟨wr.heap.size, 0, none⟩ 1 1 [.int .i64 (j : Int)] rfl rfl ?c1 ?c2 ?c3 ?c4 ?c5 ?_)
              | fail)
            case c1 =>
              intro j u hj
              match j, hj with
              | 0, hj => simp at hj; subst hj; simp [Addr.add]
            case c2 => intro u hu; simp at hu; subst hu; rfl
            case c3 => unfold maxLen; omega
            case c4 => omega
            case c5 => simp; omega
            intro v' w4 hown' hgrow hnn
            have HI3 := Lib.hid (IL.mk (Z := W) (W := w4) (cv := v') (pre := Ch.leftK D j ++ [j]) (by simpa using hown') (below_grown (below_alloc HI.out.b _) (hown.out.alloc _) hgrow))
            clear hown hown' hgrow hnn HI
            gi_wp2
            go_roundw
            case rel => exact ⟨j + 1, by omega, by go_num, Lib.hid (by rw [hht.out]; exact HI3.out)⟩
            case measure => show L.length - ((j : Int) + 1).toNat < L.length - (j : Int).toNat; omega
          · rw [hdj] at cd
            have hms := Lib.hid (Ch.leftK_miss hdj)
            clear hdj
            gi_wp2
            go_roundw
            case rel => exact ⟨j + 1, by omega, by go_num, Lib.hid (by rw [hms.out]; exact HI.out)⟩
            case measure => show L.length - ((j : Int) + 1).toNat < L.length - (j : Int).toNat; omega
        · obtain rfl : j = L.length := by omega
          have hi5 : ¬ ((L.length : Nat) : Int) < ((L.length : Nat) : Int) := by omega
          have hz9 := hBW.size
          gi_wp2
          refine leaves_marks [E] _ (by simp) (fun r hr => by simp at hr; subst hr; exact (HI.out.b.block _ hEs).trans hD.out) ?_
          have fb := freed_but [E] wr
          refine ⟨_, by simp [results, Tryz.results19, go_sem]; rfl, _, rfl, ?_, ?_⟩
          · rw [← hl9.out]
            exact owns_base (owns_but HI.out.o fb (fun g hg e => by have := owns_far HI.out.o hg; simp at e; omega)) hz9
          · exact hBW.trans ((HI.out.b.mono hz9).trans (fb.below (Nat.le_trans hz9 HI.out.b.size) (fun k hk e => by simp at e; omega)))
end Go.Proofs.YtemacokojdeimaaGreatDoor

/- The laws of layer 2: example. -/
namespace Go.Proofs.YtemacokojdeimaaGreatDoor
open Go.RowKit

def ExPost (w : World) (e : Ending) (w' : World) : Prop :=
  ∃ eb, w.heap.size ≤ eb ∧ e = .returned (.agg #[.int .i64 4, .slice (some ⟨eb, 0, none⟩) 5 5]) ∧ LksAt w' (some ⟨eb, 0, none⟩) Ch.exL ∧ Below w.heap.size w w'

theorem lks_block {w : World} {g : Nat} {L : List Ch.Lk} (h : ∀ j u, (lkCells L)[j]? = some u → w.cell? ⟨g, j, none⟩ = some u) : LksAt w (some ⟨g, 0, none⟩) L := fun k hk => ⟨_, rfl, by
  obtain ⟨g1, g2, g3⟩ := lkCells_get hk
  have e : (⟨g, 0, none⟩ : Addr).add (k * 3) = ⟨g, k * 3, none⟩ := by unfold Addr.add; split <;> simp_all
  rw [e]
  exact ⟨h _ _ g1, h _ _ g2, h _ _ g3⟩⟩

set_option maxRecDepth 100000 in
set_option maxHeartbeats 4000000 in
theorem example_any (w : World) : Calls Tryz.prog 13 #[] w (ExPost w) := by
  go_enter Tryz.func13, Tryz.ntmps13
  go_wp2_with fail
  refine bodyPost_ret (v := (.agg #[.int .i64 4, .slice (some ⟨w.heap.size + 1, 0, none⟩) 5 5])) (by simp [results, Tryz.results13, go_sem]) rfl ?_
  refine ⟨w.heap.size + 1, by omega, rfl, lks_block (fun j u hu => ?_), (by repeat (first | with_reducible exact Below.refl _ _ | with_reducible assumption | refine below_drewN ?_ _ | refine Below.drew ?_ | refine Below.alloc ?_ (by first | (simp; done) | (simp; omega) | omega) _ | refine Below.setCell ?_ (by first | (simp; done) | (simp; omega) | omega) _ | refine Below.trans ?_ (Below.mono (by assumption) (by first | (simp; done) | (simp; omega) | omega))))⟩
  have e : lkCells Ch.exL = [.int .i64 0, .int .i64 1, .int .i64 5, .int .i64 1, .int .i64 2, .int .i64 3, .int .i64 0, .int .i64 2, .int .i64 9, .int .i64 2, .int .i64 0, .int .i64 (-6), .int .i64 2, .int .i64 1, .int .i64 (-2)] := rfl
  rw [e] at hu
  have h := World.alloc_heap_new (w.alloc (Obj.cells #[.int .i64 4, .slice (some ⟨w.heap.size + 1, 0, none⟩) 5 5] 24)) (Obj.cells #[.int .i64 0, .int .i64 1, .int .i64 5, .int .i64 1, .int .i64 2, .int .i64 3, .int .i64 0, .int .i64 2, .int .i64 9, .int .i64 2, .int .i64 0, .int .i64 (-6), .int .i64 2, .int .i64 1, .int .i64 (-2)] 54)
  rw [World.size_alloc] at h
  simp only [World.cell?, h]
  rw [← hu, ← Array.getElem?_toList]
  rfl
end Go.Proofs.YtemacokojdeimaaGreatDoor

/- Contracts of the specification: SameInts. -/
namespace Go.Proofs.YtemacokojdeimaaGreatDoor
open Go.RowKit

set_option maxHeartbeats 400000 in
theorem sameInts_len (a b : Option Addr) (p q c d : Nat) (h : ((p : Int) != (q : Int)) = true) (w : World) :
    Calls Tryz.prog 20 #[.slice a p c, .slice b q d] w fun e w' => e = .returned (.bool false) ∧ Below w.heap.size w w' := by
  go_enter Tryz.func20, Tryz.ntmps20
  go_wp2
  go_ret
  exact ⟨rfl, (by repeat (first | with_reducible exact Below.refl _ _ | with_reducible assumption | refine below_drewN ?_ _ | refine Below.drew ?_ | refine Below.alloc ?_ (by first | (simp; done) | (simp; omega) | omega) _ | refine Below.setCell ?_ (by first | (simp; done) | (simp; omega) | omega) _ | refine Below.trans ?_ (Below.mono (by assumption) (by first | (simp; done) | (simp; omega) | omega))))⟩

set_option maxRecDepth 100000 in
set_option maxHeartbeats 1000000 in
theorem sameInts_loop (a b : Option Addr) (p c d : Nat) (l1 l2 : List Int) (h1 : Hid (l1.length = p)) (h2 : Hid (l2.length = p)) (hp : p ≤ 1000000) (R : Bool) (hR : Hid (decide (l1 = l2) = R)) (w : World) (hl1 : Hid (IntsAt w a l1)) (hl2 : Hid (IntsAt w b l2)) :
    Calls Tryz.prog 20 #[.slice a p c, .slice b p d] w fun e w' => e = .returned (.bool R) ∧ Below w.heap.size w w' := by
  go_enter Tryz.func20, Tryz.ntmps20
  go_wp2
  go_loopw [5] (fun i wr => ∃ k : Nat, k ≤ p ∧ i = .int .i64 k ∧ Below w.heap.size w wr ∧ Hid (∀ j, j < k → l1.getD j 0 = l2.getD j 0)) (fun i _ => p - (RowKit.intOf i).toNat)
  case atStart => exact ⟨0, Nat.zero_le _, rfl, Below.refl _ _, Lib.hid (fun j hj => by omega)⟩
  case round =>
    obtain ⟨k, hk, rfl, hb, hall⟩ := hrel
    by_cases hlt : k < p
    · obtain ⟨x, rfl, hx⟩ := hl1.out k (by have := h1.out; omega)
      obtain ⟨y, rfl, hy⟩ := hl2.out k (by have := h2.out; omega)
      have hx2 := (hb.cell (block_lt_of_cell hx)).trans hx
      have hy2 := (hb.cell (block_lt_of_cell hy)).trans hy
      obtain ⟨u, hu⟩ : ∃ u, l1.getD k 0 = u := ⟨_, rfl⟩
      obtain ⟨v, hv⟩ : ∃ v, l2.getD k 0 = v := ⟨_, rfl⟩
      rw [hu] at hx2
      rw [hv] at hy2
      replace hu := Lib.hid hu
      replace hv := Lib.hid hv
      clear hx hy
      have hi5 : (k : Int) < (p : Int) := by omega
      by_cases huv : u = v
      · subst huv
        go_wp2_with fail
        try go_region
        go_wp2
        go_roundw
        case rel => exact ⟨k + 1, by omega, by go_num, (by repeat (first | with_reducible exact Below.refl _ _ | with_reducible assumption | refine below_drewN ?_ _ | refine Below.drew ?_ | refine Below.alloc ?_ (by first | (simp; done) | (simp; omega) | omega) _ | refine Below.setCell ?_ (by first | (simp; done) | (simp; omega) | omega) _ | refine Below.trans ?_ (Below.mono (by assumption) (by first | (simp; done) | (simp; omega) | omega)))), Lib.hid (fun j hj => by
          rcases Nat.lt_or_ge j k with h | h
          · exact hall.out j h
          · obtain rfl : j = k := by omega
            rw [hu.out, hv.out])⟩
        case measure => first | (simp [RowKit.intOf]; done) | (simp [RowKit.intOf]; omega) | omega
      · have hne : (u != v) = true := by rw [bne_iff_ne]; exact huv
        have hR2 : Hid (R = false) := Lib.hid (by
          rw [← hR.out, decide_eq_false]
          intro e
          exact huv (by rw [← hu.out, ← hv.out, e]))
        clear hall
        go_wp2_with fail
        try go_region
        go_wp2
        go_ret
        exact ⟨by rw [hR2.out]; rfl, (by repeat (first | with_reducible exact Below.refl _ _ | with_reducible assumption | refine below_drewN ?_ _ | refine Below.drew ?_ | refine Below.alloc ?_ (by first | (simp; done) | (simp; omega) | omega) _ | refine Below.setCell ?_ (by first | (simp; done) | (simp; omega) | omega) _ | refine Below.trans ?_ (Below.mono (by assumption) (by first | (simp; done) | (simp; omega) | omega))))⟩
    · obtain rfl : k = p := by omega
      have hi5 : ¬ (k : Int) < (k : Int) := by omega
      have hR2 : Hid (R = true) := Lib.hid (by
        rw [← hR.out, decide_eq_true]
        refine List.ext_getElem (h1.out.trans h2.out.symm) (fun j hj1 hj2 => ?_)
        have := hall.out j (by have := h1.out; omega)
        simp only [List.getD, List.getElem?_eq_getElem hj1, List.getElem?_eq_getElem hj2, Option.getD_some] at this
        exact this)
      clear hall
      go_wp2
      go_ret
      exact ⟨by rw [hR2.out]; rfl, (by repeat (first | with_reducible exact Below.refl _ _ | with_reducible assumption | refine below_drewN ?_ _ | refine Below.drew ?_ | refine Below.alloc ?_ (by first | (simp; done) | (simp; omega) | omega) _ | refine Below.setCell ?_ (by first | (simp; done) | (simp; omega) | omega) _ | refine Below.trans ?_ (Below.mono (by assumption) (by first | (simp; done) | (simp; omega) | omega))))⟩

theorem sameInts_any (a b : Option Addr) (c d : Nat) (l1 l2 : List Int) (hp : l1.length ≤ 1000000) (w : World) (hl1 : IntsAt w a l1) (hl2 : IntsAt w b l2) :
    Calls Tryz.prog 20 #[.slice a l1.length c, .slice b l2.length d] w fun e w' => e = .returned (.bool (decide (l1 = l2))) ∧ Below w.heap.size w w' := by
  by_cases h : l1.length = l2.length
  · have := sameInts_loop a b l1.length c d l1 l2 (Lib.hid rfl) (Lib.hid h.symm) hp _ (Lib.hid rfl) w (Lib.hid hl1) (Lib.hid hl2)
    rw [← h]
    exact this
  · rw [decide_eq_false (fun e => h (by rw [e]))]
    exact sameInts_len a b _ _ c d (by rw [bne_iff_ne]; omega) w

end Go.Proofs.YtemacokojdeimaaGreatDoor

/- Contracts of package chain: greatestValues, Slack. -/
namespace Go.Proofs.YtemacokojdeimaaGreatDoor
open Go.RowKit

set_option maxHeartbeats 1000000 in
theorem opposites_none (w : World) :
    Calls Tryz.prog 63 #[.slice none 0 0] w fun e w' => e = .returned (.slice none 0 0) ∧ w' = w := by
  go_enter Tryz.func63, Tryz.ntmps63
  go_wp2
  go_loopw [6] (fun i wr => i = .int .i64 0 ∧ wr = w) (fun _ _ => 0)
  case atStart => exact ⟨rfl, rfl⟩
  case round =>
    obtain ⟨rfl, rfl⟩ := hrel
    have hi5 : ¬ (0 : Int) < 0 := by omega
    go_wp2
    go_ret
    exact ⟨rfl, rfl⟩

set_option maxRecDepth 100000 in
set_option maxHeartbeats 2000000 in
theorem greatest_any (n : Int) (a : Option Addr) (cap : Nat) (L : List Ch.Lk) (k : Nat) (hE : (Ch.check n (Ch.turned L)).1 = 0 → Ch.enough n.toNat (Ch.turned L) [] k = true) (w : World) (hL : LksAt w a L) :
    Calls Tryz.prog 37 #[sysV n a L.length cap] w (LsPost w n.toNat (Ch.greatE n L k) (Ch.greatest n L k)) := by
  have hB0 : Below w.heap.size w (w.alloc (Obj.cells #[.int .i64 n, .slice a L.length cap] 24)) := below_alloc (Below.refl _ _) _
  have HC := Lib.hid (check_any n a cap L _ (hL.below hB0))
  obtain ⟨gE, hgE⟩ : ∃ gE, Ch.greatE n L k = gE := ⟨_, rfl⟩
  rw [hgE]
  unfold Ch.greatE at hgE
  obtain ⟨S, hS⟩ : ∃ S, Ch.greatest n L k = S := ⟨_, rfl⟩
  rw [hS]
  obtain ⟨ec, hec⟩ : ∃ ec, (Ch.check n L).1 = ec := ⟨_, rfl⟩
  obtain ⟨at1, hat⟩ : ∃ at1, (Ch.check n L).2 = at1 := ⟨_, rfl⟩
  rw [hec, hat] at HC
  rw [hec] at hgE
  have h300 : ec = 0 → L.length ≤ 300 ∧ 1 ≤ n ∧ n ≤ 60 := fun h => by
    have := Ch.check_ok (hec.trans h)
    exact ⟨this.2.2.1, this.1, this.2.1⟩
  clear hec hat
  replace h300 := Lib.hid h300
  replace hgE := Lib.hid hgE
  unfold sysV at *
  go_enter Tryz.func37, Tryz.ntmps37
  go_wp2_with fail
  refine HC.out.mono ?_
  rintro e w1 ⟨rfl, hb1⟩
  have k0 : w1.cell? ⟨w.heap.size, 0, none⟩ = some (.int .i64 n) := kept1 (by simp [go_sem]) hb1
  have k1 : w1.cell? ⟨w.heap.size, 1, none⟩ = some (.slice a L.length cap) := kept1 (by simp [go_sem]) hb1
  have hB1 := bstep1 (Below.refl _ _) hb1
  clear HC hb1 hB0
  by_cases h0 : ec = 0
  · subst h0
    obtain ⟨m3, n1, n2⟩ := h300.out rfl
    have hgE2 := hgE.out
    rw [if_neg (by simp)] at hgE2
    have HT := Lib.hid (turned_any n a cap L L.length (Lib.hid rfl) m3 w1 (Lib.hid (hL.below hB1)))
    unfold sysV at HT
    go_wp2_with fail
    refine HT.out.mono ?_
    rintro e w2 ⟨tb, ht, rfl, hT, hb⟩
    have hB2 := hB1.trans (hb.mono hB1.size)
    have HL := least_any n (some ⟨tb, 0, none⟩) L.length (Ch.turned L) k hE w2 hT
    rw [Ch.turned_len, hgE2] at HL
    replace HL := Lib.hid HL
    unfold sysV at HL
    unfold sysV
    have hrg : Hid (gE = 0 → ∀ i, i < n.toNat → -1152921504606846976 ≤ (Ch.least n (Ch.turned L) k).getD i 0 ∧ (Ch.least n (Ch.turned L) k).getD i 0 ≤ 1152921504606846976) := Lib.hid fun h => Ch.least_range hE (hgE2.trans h)
    clear hb HT hT k0 k1 hgE hgE2
    go_wp2_with fail
    refine HL.out.mono ?_
    rintro e w3 ⟨hb, h⟩
    have hB3 := hB2.trans (hb.mono hB2.size)
    have hsz := hB2.size
    clear hb HL
    rcases h with ⟨hne, rfl⟩ | ⟨rfl, sb, f, hsb, rfl, hr, hf⟩
    · go_wp2_with fail
      refine (opposites_none _).mono ?_
      rintro e w4 ⟨rfl, hw⟩
      subst hw
      go_wp2
      go_ret2
      exact ⟨hB3, .inl ⟨hne, rfl⟩⟩
    · have hgr : ∀ i, i < n.toNat → -1152921504606846976 ≤ (Ch.least n (Ch.turned L) k).getD i 0 ∧ (Ch.least n (Ch.turned L) k).getD i 0 ≤ 1152921504606846976 := by
        exact hrg.out rfl
      have HP := Lib.hid (opposites_any sb n.toNat n.toNat n.toNat (by omega) (Nat.le_refl _) f _ (Lib.hid hf) (Lib.hid hgr) w3 (Lib.hid hr))
      have hsb2 : w.heap.size ≤ sb := Nat.le_trans hsz hsb
      clear hr hf hgr
      go_wp2_with fail
      refine HP.out.mono ?_
      rintro e w4 ⟨rfl, hr, hb⟩
      have hB4 := hB3.trans (hb.below (B := w.heap.size) hB3.size (fun k hk => by omega))
      clear hb HP
      go_wp2
      go_ret2
      refine ⟨hB4, .inr ⟨rfl, sb, _, hsb2, rfl, hr, fun i hi => ?_⟩⟩
      rw [← hS]
      unfold Ch.greatest oppF
      rw [neg_get, if_pos hi]
  · have hgE2 := hgE.out
    rw [if_pos h0] at hgE2
    subst hgE2
    go_wp2
    go_ret2
    exact ⟨hB1, .inl ⟨h0, rfl⟩⟩

set_option maxRecDepth 100000 in
set_option maxHeartbeats 2000000 in
theorem slack_any (n : Int) (a : Option Addr) (cap : Nat) (L : List Ch.Lk) (k : Nat) (i : Int) (hE : (Ch.check n L).1 = 0 → Ch.enough n.toNat L [] k = true) (w : World) (hL : LksAt w a L) :
    Calls Tryz.prog 17 #[sysV n a L.length cap, .int .i64 i] w fun e w' => e = .returned (.tuple #[.int .i64 (Ch.slack n L k i).1, .int .i64 (Ch.slack n L k i).2]) ∧ Below w.heap.size w w' := by
  have hB0 : Below w.heap.size w (w.alloc (Obj.cells #[.int .i64 n, .slice a L.length cap] 24)) := below_alloc (Below.refl _ _) _
  have HC := Lib.hid (check_any n a cap L _ (hL.below hB0))
  obtain ⟨r1, r2, hrr⟩ : ∃ r1 r2, Ch.slack n L k i = (r1, r2) := ⟨_, _, rfl⟩
  rw [hrr]
  unfold Ch.slack at hrr
  have hok := Ch.check_ok (n := n) (L := L)
  obtain ⟨ec, hec⟩ : ∃ ec, (Ch.check n L).1 = ec := ⟨_, rfl⟩
  obtain ⟨at1, hat⟩ : ∃ at1, (Ch.check n L).2 = at1 := ⟨_, rfl⟩
  rw [hec, hat] at HC
  rw [hec] at hrr hok
  clear hec hat
  replace hok := Lib.hid hok
  replace hrr := Lib.hid hrr
  unfold sysV at *
  go_enter Tryz.func17, Tryz.ntmps17
  go_wp2_with fail
  refine HC.out.mono ?_
  rintro e w1 ⟨rfl, hb1⟩
  have k0 : w1.cell? ⟨w.heap.size, 0, none⟩ = some (.int .i64 n) := kept1 (by simp [go_sem]) hb1
  have k1 : w1.cell? ⟨w.heap.size, 1, none⟩ = some (.slice a L.length cap) := kept1 (by simp [go_sem]) hb1
  have hB1 := bstep1 (Below.refl _ _) hb1
  clear HC hb1 hB0
  by_cases h0 : ec = 0
  · subst h0
    have h := hrr.out
    rw [if_neg (by simp)] at h
    have HI := isIndex_any i (L.length : Int)
    cases hi : Ch.isIx i L.length
    · rw [hi, if_pos rfl] at h
      rw [hi] at HI
      obtain ⟨rfl, rfl⟩ := Prod.mk.inj h
      replace HI := Lib.hid HI
      clear h hrr hi
      go_wp2_with fail
      refine (HI.out _).mono ?_
      rintro e w2 ⟨rfl, hw⟩
      subst hw
      go_wp2
      go_ret2
      exact ⟨rfl, hB1⟩
    · rw [hi, if_neg (by simp)] at h
      rw [hi] at HI
      replace HI := Lib.hid HI
      simp [Ch.isIx] at hi
      obtain ⟨j, rfl⟩ : ∃ j : Nat, i = (j : Int) := ⟨i.toNat, by omega⟩
      rw [Int.toNat_natCast] at h
      obtain ⟨_, _, _, hokk⟩ := hok.out rfl
      have hj : j < L.length := by omega
      obtain ⟨y, rfl, hl3⟩ := hL j hj
      have hok1 := Ch.okLk_spec (hokk j hj)
      obtain ⟨f, t, mo, hlk⟩ : ∃ f t mo, L.getD j Ch.noLk = ⟨f, t, mo⟩ := ⟨_, _, _, rfl⟩
      have ⟨g0, g1, g2⟩ := hl3.below hB1
      rw [hlk] at g0 g1 g2 hok1 h
      simp only at hok1 g0 g1 g2 h
      obtain ⟨o1, o2, o3, o4, _, o6, o7⟩ := hok1
      replace h := Lib.hid h
      have hi5 : (j : Int) < (L.length : Int) := by omega
      have hi6 : (0 : Int) ≤ (j : Int) := by omega
      have hb2 : Below w.heap.size w (w1.alloc (Obj.cells #[.int .i64 f, .int .i64 t, .int .i64 mo] 54)) := below_alloc hB1 _
      have HB := Lib.hid (bound_any n (some y) cap L t f k hE _ (hL.below hb2))
      have hbr := Ch.bound_range hE t f
      obtain ⟨b1, b2, hbb⟩ : ∃ b1 b2, Ch.bound n L k t f = (b1, b2) := ⟨_, _, rfl⟩
      rw [hbb] at HB h hbr
      simp only at hbr
      clear hl3 hlk hok hrr hbb hE
      have k0' := cell_alloc k0 (Obj.cells #[.int .i64 f, .int .i64 t, .int .i64 mo] 54)
      have k1' := cell_alloc k1 (Obj.cells #[.int .i64 f, .int .i64 t, .int .i64 mo] 54)
      have hsz := hB1.size
      go_wp2_with fail
      refine (HI.out _).mono ?_
      rintro e w2 ⟨rfl, hw⟩
      subst hw
      go_wp2_with fail
      refine HB.out.mono ?_
      rintro e w3 ⟨rfl, hb3⟩
      have c2 : w3.cell? ⟨w2.heap.size, 2, none⟩ = some (.int .i64 mo) := kept1 (by simp [go_sem]) hb3
      have hB3 := hb2.trans (hb3.mono hb2.size)
      have h := h.out
      clear hb3 hb2 HB HI k0 k1 k0' k1' g0 g1 g2
      by_cases h9 : b2 = 0
      · subst h9
        rw [if_neg (by simp)] at h
        obtain ⟨rfl, rfl⟩ := Prod.mk.inj h
        clear h
        go_wp2
        go_ret2
        exact ⟨rfl, hB3⟩
      · rw [if_pos h9] at h
        obtain ⟨rfl, rfl⟩ := Prod.mk.inj h
        clear h
        go_wp2
        go_ret2
        exact ⟨rfl, hB3⟩
  · have h := hrr.out
    rw [if_pos h0] at h
    obtain ⟨rfl, rfl⟩ := Prod.mk.inj h
    clear h hrr
    go_wp2
    go_ret2
    exact ⟨rfl, hB1⟩
end Go.Proofs.YtemacokojdeimaaGreatDoor

/- Contracts of package chain: Spans. -/
namespace Go.Proofs.YtemacokojdeimaaGreatDoor
open Go.RowKit

theorem infoSpan : (Tryz.prog.info? 51).map (fun i => (i.zero, i.size, i.bytes)) = some (some (.agg #[.int .i64 0, .int .i64 0]), 2, 16) := by kernel_rfl

/-- the spans of which the first k are laid -/
def spF (lo up : List Int) (k : Nat) : Nat → Value := fun i => .int .i64 (if i / 2 < k then if i % 2 = 0 then lo.getD (i / 2) 0 else up.getD (i / 2) 0 else 0)
theorem spF_zero (lo up : List Int) : spF lo up 0 = fun _ => .int .i64 0 := by
  funext i; unfold spF; rw [if_neg (by omega)]
theorem rowIs_zeros2 (w : World) (n : Nat) (t : TypeId) : (w.alloc (.cells (madeCells #[.int .i64 0, .int .i64 0] n) t)).rowIs w.heap.size t n (fun _ => .int .i64 0) := by
  refine (rowIs_wide w _ n t).congr (fun i _ => ?_)
  have h : i % 2 < 2 := Nat.mod_lt _ (by decide)
  show #[Value.int .i64 0, .int .i64 0][i % 2]! = _
  revert h
  generalize i % 2 = j
  intro h
  match j, h with
  | 0, _ => rfl
  | 1, _ => rfl
theorem sp_row {X : World} {pb n k : Nat} {lo up : List Int} (h : X.rowIs pb 51 (n * 2) (spF lo up k)) :
    ((X.setCell ⟨pb, k * 2, none⟩ (.int .i64 (lo.getD k 0))).setCell ⟨pb, k * 2 + 1, none⟩ (.int .i64 (up.getD k 0))).rowIs pb 51 (n * 2) (spF lo up (k + 1)) := by
  refine ((h.set (k * 2) _).set (k * 2 + 1) _).congr (fun i hi => ?_)
  unfold spF
  by_cases e1 : i = k * 2 + 1
  · subst e1
    rw [if_pos rfl, show (k * 2 + 1) / 2 = k by omega, if_pos (by omega), if_neg (by omega)]
  rw [if_neg e1]
  by_cases e0 : i = k * 2
  · subst e0
    rw [if_pos rfl, show (k * 2) / 2 = k by omega, if_pos (by omega), if_pos (by omega)]
  rw [if_neg e0]
  by_cases e : i / 2 < k
  · have e' : i / 2 < k + 1 := by omega
    rw [if_pos e, if_pos e']
  · rw [if_neg e, if_neg (by omega)]

/-- what Spans leaves -/
def SpPost (w : World) (n : Nat) (ec : Int) (lo up : List Int) (e : Ending) (w' : World) : Prop :=
  Below w.heap.size w w' ∧ ((ec ≠ 0 ∧ e = .returned (.tuple #[.slice none 0 0, .int .i64 ec])) ∨
    (ec = 0 ∧ ∃ pb, w.heap.size ≤ pb ∧ e = .returned (.tuple #[.slice (some ⟨pb, 0, none⟩) n n, .int .i64 0]) ∧ w'.rowIs pb 51 (n * 2) (spF lo up n)))

/-- the world in the loop of Spans -/
structure SW (w W : World) (lb ub pb n : Nat) (lo up : List Int) (k : Nat) : Prop where
  l : ∃ f, W.rowIs lb 3 n f ∧ ∀ i, i < n → f i = .int .i64 (lo.getD i 0)
  u : ∃ f, W.rowIs ub 3 n f ∧ ∀ i, i < n → f i = .int .i64 (up.getD i 0)
  p : W.rowIs pb 51 (n * 2) (spF lo up k)
  b : Below w.heap.size w W
  p0 : w.heap.size ≤ pb
  lp : lb ≠ pb
  up : ub ≠ pb

theorem SW.step {w W : World} {lb ub pb n : Nat} {lo up : List Int} {k : Nat} (h : SW w W lb ub pb n lo up k) :
    SW w ((W.setCell ⟨pb, k * 2, none⟩ (.int .i64 (lo.getD k 0))).setCell ⟨pb, k * 2 + 1, none⟩ (.int .i64 (up.getD k 0))) lb ub pb n lo up (k + 1) := by
  obtain ⟨f, f1, f2⟩ := h.l
  obtain ⟨g, g1, g2⟩ := h.u
  exact ⟨⟨f, (f1.setOther (a := ⟨pb, k * 2, none⟩) h.lp _).setOther (a := ⟨pb, k * 2 + 1, none⟩) h.lp _, f2⟩, ⟨g, (g1.setOther (a := ⟨pb, k * 2, none⟩) h.up _).setOther (a := ⟨pb, k * 2 + 1, none⟩) h.up _, g2⟩, sp_row h.p, (h.b.setCell h.p0 _).setCell h.p0 _, h.p0, h.lp, h.up⟩
theorem SW.drew {w W : World} {lb ub pb n : Nat} {lo up : List Int} {k : Nat} (h : SW w W lb ub pb n lo up k) : SW w W.drew lb ub pb n lo up k := by
  obtain ⟨f, f1, f2⟩ := h.l
  obtain ⟨g, g1, g2⟩ := h.u
  exact ⟨⟨f, f1.drew, f2⟩, ⟨g, g1.drew, g2⟩, h.p.drew, h.b.drew, h.p0, h.lp, h.up⟩

set_option maxRecDepth 100000 in
set_option maxHeartbeats 2000000 in
theorem spans_any (n : Int) (a : Option Addr) (cap : Nat) (L : List Ch.Lk) (k : Nat) (hE : (Ch.check n L).1 = 0 → Ch.enough n.toNat L [] k = true) (hE2 : (Ch.check n (Ch.turned L)).1 = 0 → Ch.enough n.toNat (Ch.turned L) [] k = true) (hT : Ch.opn n L [] k = 0 → Ch.greatE n L k = 0) (w : World) (hL : LksAt w a L) :
    Calls Tryz.prog 16 #[sysV n a L.length cap] w (SpPost w n.toNat (Ch.opn n L [] k) (Ch.least n L k) (Ch.greatest n L k)) := by
  have hB0 : Below w.heap.size w (w.alloc (Obj.cells #[.int .i64 n, .slice a L.length cap] 24)) := below_alloc (Below.refl _ _) _
  have HL := Lib.hid (least_any n a cap L k hE _ (hL.below hB0))
  have hn := fun h => Ch.check_ok (Ch.opn_ok (n := n) (L := L) (l := []) (k := k) h).1
  obtain ⟨ec, hec⟩ : ∃ ec, Ch.opn n L [] k = ec := ⟨_, rfl⟩
  rw [hec] at HL hT hn ⊢
  obtain ⟨lo, hlo⟩ : ∃ lo, Ch.least n L k = lo := ⟨_, rfl⟩
  obtain ⟨up, hup⟩ : ∃ up, Ch.greatest n L k = up := ⟨_, rfl⟩
  rw [hlo] at HL ⊢
  rw [hup]
  clear hec
  replace hn := Lib.hid hn
  replace hT := Lib.hid hT
  unfold sysV at HL ⊢
  go_enter Tryz.func16, Tryz.ntmps16
  go_wp2_with fail
  refine HL.out.mono ?_
  rintro e w1 ⟨hb1, h⟩
  have k0 : w1.cell? ⟨w.heap.size, 0, none⟩ = some (.int .i64 n) := kept1 (by simp [go_sem]) hb1
  have k1 : w1.cell? ⟨w.heap.size, 1, none⟩ = some (.slice a L.length cap) := kept1 (by simp [go_sem]) hb1
  have hB1 := bstep1 (Below.refl _ _) hb1
  clear HL hb1 hB0
  rcases h with ⟨hne, rfl⟩ | ⟨rfl, lb, f, hlb, rfl, hr, hf⟩
  · go_wp2
    go_ret2
    exact ⟨hB1, .inl ⟨hne, rfl⟩⟩
  · have HG := greatest_any n a cap L k hE2 w1 (hL.below hB1)
    rw [hT.out rfl, hup] at HG
    replace HG := Lib.hid HG
    unfold sysV at HG
    obtain ⟨n1, n2, m3, _⟩ := hn.out rfl
    obtain ⟨N, rfl⟩ : ∃ N : Nat, n = (N : Int) := ⟨n.toNat, by omega⟩
    rw [Int.toNat_natCast] at *
    have hlw := hr.lt
    clear hT hn hup hlo
    go_wp2_with fail
    refine HG.out.mono ?_
    rintro e w2 ⟨hb2, h⟩
    have h := h.resolve_left (fun h => h.1 rfl)
    obtain ⟨_, ub, g, hub, rfl, hu, hg⟩ := h
    have k0 := kept1 k0 hb2
    have hr2 := hr.of_block (hb2.block _ hr.lt)
    have hB2 := hB1.trans (hb2.mono hB1.size)
    have hl2 := hr2.lt
    have hu2 := hu.lt
    clear hb2 hr HG hlw k1
    have hmk := run_make_wide (P := Tryz.prog) 44 51 _ 2 16 #[.int .i64 0, .int .i64 0] Tryz.underlying44 infoSpan rfl .i64 .i64 N (by omega) (by omega)
    have HS : Hid (SW w (w2.alloc (.cells (madeCells #[.int .i64 0, .int .i64 0] (N * 2)) 51)) lb ub w2.heap.size N lo up 0) := Lib.hid ⟨⟨f, hr2.alloc _, hf⟩, ⟨g, hu.alloc _, hg⟩, by rw [spF_zero]; exact rowIs_zeros2 w2 _ _, hB2.alloc hB2.size _, hB2.size, by omega, by omega⟩
    clear hr2 hu hf hg hB2
    go_wp2
    go_loopw [28] (fun i wr => ∃ j : Nat, j ≤ N ∧ i = .int .i64 j ∧ Hid (SW w wr lb ub w2.heap.size N lo up j)) (fun i _ => N - (RowKit.intOf i).toNat)
    case atStart => exact ⟨0, Nat.zero_le _, rfl, HS⟩
    case round =>
      clear HS
      obtain ⟨j, hj, rfl, HS⟩ := hrel
      by_cases hlt : j < N
      · have hi5 : (j : Int) < (N : Int) := by omega
        obtain ⟨f, f1, f2⟩ := HS.out.l
        obtain ⟨g, g1, g2⟩ := HS.out.u
        have c1 := f1.cell (i := j) hlt
        have c2 := g1.cell (i := j) hlt
        rw [f2 j hlt] at c1
        rw [g2 j hlt] at c2
        have d0 := HS.out.p.cell (i := j * 2) (by omega)
        have d1 := HS.out.p.cell (i := j * 2 + 1) (by omega)
        have z0 := HS.out.p.frozen (j * 2)
        have z1 := HS.out.p.frozen (j * 2 + 1)
        have HS2 := Lib.hid HS.out.drew.step
        obtain ⟨x, hx⟩ : ∃ x, lo.getD j 0 = x := ⟨_, rfl⟩
        obtain ⟨y, hy⟩ : ∃ y, up.getD j 0 = y := ⟨_, rfl⟩
        rw [hx] at c1 HS2
        rw [hy] at c2 HS2
        clear f1 f2 g1 g2 hx hy
        go_upto_region 9 with fail
        go_region
        go_wp2
        go_roundw
        case rel => exact ⟨j + 1, by omega, by go_num, HS2⟩
        case measure => show N - ((j : Int) + 1).toNat < N - (j : Int).toNat; omega
      · obtain rfl : j = N := by omega
        have hi5 : ¬ (j : Int) < (j : Int) := by omega
        go_wp2
        go_ret2
        exact ⟨HS.out.b, .inr ⟨rfl, _, HS.out.p0, rfl, HS.out.p⟩⟩
end Go.Proofs.YtemacokojdeimaaGreatDoor

/- The laws of layer 2: sanity. -/
namespace Go.Proofs.YtemacokojdeimaaGreatDoor
open Go.RowKit

/-- the world in sanity: the example's system in its box -/
structure SWx (w : World) (sb : Nat) (a : Option Addr) (cp : Nat) (W : World) : Prop where
  c0 : W.cell? ⟨sb, 0, none⟩ = some (.int .i64 4)
  c1 : W.cell? ⟨sb, 1, none⟩ = some (.slice a 6 cp)
  l : LksAt W a Ch.exW
  b : Below w.heap.size w W
theorem SWx.below {w W W' : World} {sb : Nat} {a : Option Addr} {cp : Nat} (h : SWx w sb a cp W) (hb : Below W.heap.size W W') : SWx w sb a cp W' := ⟨kept1 h.c0 hb, kept1 h.c1 hb, h.l.below hb, h.b.trans (hb.mono h.b.size)⟩

/-- the world in sanity: the example's system in its box -/
structure SY (w : World) (sb : Nat) (a : Option Addr) (W : World) : Prop where
  c0 : W.cell? ⟨sb, 0, none⟩ = some (.int .i64 4)
  c1 : W.cell? ⟨sb, 1, none⟩ = some (.slice a 5 5)
  l : LksAt W a Ch.exL
  b : Below w.heap.size w W
theorem SY.below {w W W' : World} {sb : Nat} {a : Option Addr} (h : SY w sb a W) (hb : Below W.heap.size W W') : SY w sb a W' := ⟨kept1 h.c0 hb, kept1 h.c1 hb, h.l.below hb, h.b.trans (hb.mono h.b.size)⟩

theorem sp_held : Tryz.prog.stoodInHeld 51 = false := by kernel_rfl
theorem sp_guard : Tryz.prog.eqGuardType Tryz.prog.depth 51 = false := by kernel_rfl
theorem run_eql_sp (f t f' t' : Int) (w : World) : (binOp .eql 51 (.agg #[.int .i64 f, .int .i64 t]) (.agg #[.int .i64 f', .int .i64 t'])).run Tryz.prog w = .ok (.bool (f == f' && t == t')) w := by
  rw [run_eql_struct, run_equalIn_agg _ _ _ _ _ (by simp only [Program.fieldsOf, Tryz.underlying51]) sp_held]
  simp only [Program.fieldsOf, Tryz.underlying51]
  by_cases h1 : f = f'
  · by_cases h2 : t = t'
    · simp [Op.eqFields, go_sem, h1, h2]
    · simp [Op.eqFields, go_sem, h1, h2]
  · simp [Op.eqFields, go_sem, h1]

theorem run_neq_sp (f t f' t' : Int) (w : World) : (binOp .neq 51 (.agg #[.int .i64 f, .int .i64 t]) (.agg #[.int .i64 f', .int .i64 t'])).run Tryz.prog w = .ok (.bool (!(f == f' && t == t'))) w := by
  have h := run_eql_sp f t f' t' w
  rw [run_eql_struct] at h
  rw [run_neq_struct]
  revert h
  generalize (Op.equalIn 10000 51 (.agg #[.int .i64 f, .int .i64 t]) (.agg #[.int .i64 f', .int .i64 t'])).run Tryz.prog w = r
  intro h
  cases r with
  | ok b w' =>
    simp [Result.andThen] at h ⊢
    obtain ⟨h1, h2⟩ := h
    subst h1; subst h2
    simp
  | _ => simp [Result.andThen] at h

def TruPost (w : World) (e : Ending) (w' : World) : Prop := e = .returned (.bool true) ∧ Below w.heap.size w w'
theorem ints_lit (w : World) (l : List Nat) : IntsAt (w.alloc (Obj.cells (l.map fun i : Nat => Value.int .i64 (i : Int)).toArray 3)) (some ⟨w.heap.size, 0, none⟩) (Ch.ints l) := fun k hk => by
  have hk2 : k < l.length := by rw [← ints_len]; exact hk
  refine ⟨_, rfl, ?_⟩
  have e : (⟨w.heap.size, 0, none⟩ : Addr).add k = ⟨w.heap.size, k, none⟩ := by unfold Addr.add; split <;> simp_all
  have h := World.alloc_heap_new w (Obj.cells (l.map fun i : Nat => Value.int .i64 (i : Int)).toArray 3)
  rw [e, ints_at l hk2]
  simp only [World.cell?, h]
  rw [if_neg (by simp), List.getElem?_toArray, List.getElem?_map, List.getElem?_eq_getElem hk2, List.getD, List.getElem?_eq_getElem hk2]
  rfl
theorem si_true {w W : World} (p : Option Addr) (q : Nat) (l : List Nat) {pb : Option Addr} {cb : Nat} (hl : IntsAt w p (Ch.ints l)) (hX : Below w.heap.size w W) (hl2 : IntsAt W pb (Ch.ints l)) (h9 : l.length ≤ 1000000 := by decide) :
    Calls Tryz.prog 20 #[.slice p l.length q, .slice pb l.length cb] W (TruPost w) := by
  have h := sameInts_any p pb q cb (Ch.ints l) (Ch.ints l) (by rw [ints_len]; exact h9) W (hl.below hX) hl2
  rw [ints_len, decide_eq_true (rfl : Ch.ints l = Ch.ints l)] at h
  exact h.mono fun e w' hh => ⟨hh.1, hX.trans (hh.2.mono hX.size)⟩

set_option maxRecDepth 100000 in
set_option maxHeartbeats 8000000 in
theorem sanity_any (w : World) : Calls Tryz.prog 6 #[] w fun e w' => e = .returned (.bool true) ∧ Below w.heap.size w w' := by
  go_enter Tryz.func6, Tryz.ntmps6
  go_wp2_with fail
  refine (example_any w).mono ?_
  rintro e w1 ⟨eb, heb, rfl, hl, hb⟩
  obtain ⟨a, ha⟩ : ∃ a, (some (⟨eb, 0, none⟩ : Addr)) = a := ⟨_, rfl⟩
  have ha9 := Lib.hid (show a = none → (5 : Nat) = 0 from fun h => by rw [← ha] at h; cases h)
  rw [ha] at hl ⊢
  clear ha heb
  have hX : Below w1.heap.size w1 (w1.alloc (Obj.cells #[.int .i64 4, .slice a 5 5] 24)) := below_alloc (Below.refl _ _) _
  have hS := Lib.hid (SY.mk (w := w) (sb := w1.heap.size) (W := w1.alloc (Obj.cells #[.int .i64 4, .slice a 5 5] 24)) (by simp [go_sem]) (by simp [go_sem]) (hl.below hX) (hb.trans (hX.mono hb.size)))
  clear hl hb hX
  have HB2 := Lib.hid fun (W : World) (h : SY w w1.heap.size a W) => bound_any 4 a 5 Ch.exL 0 2 40 (fun _ => Ch.fa_en) W h.l
  have HB3 := Lib.hid fun (W : World) (h : SY w w1.heap.size a W) => bound_any 4 a 5 Ch.exL 0 3 40 (fun _ => Ch.fa_en) W h.l
  rw [Ch.fa_b02] at HB2
  rw [Ch.fa_b03] at HB3
  have HCh := Lib.hid fun (W : World) (h : SY w w1.heap.size a W) => chain_any 4 a 5 Ch.exL 0 2 40 (fun _ => Ch.fa_en) [0, 1] 0 Ch.fa_ch W h.l
  have HSp := Lib.hid fun (W : World) (h : SY w w1.heap.size a W) => spans_any 4 a 5 Ch.exL 40 (fun _ => Ch.fa_en) (fun _ => Ch.fa_tu) (fun _ => Ch.fa_gr) W h.l
  rw [Ch.fa_opn, Ch.fa_lo, Ch.fa_up, show Int.toNat 4 = 4 from rfl] at HSp
  have HSl := Lib.hid fun (W : World) (h : SY w w1.heap.size a W) => slack_any 4 a 5 Ch.exL 40 3 (fun _ => Ch.fa_en) W h.l
  rw [Ch.fa_sl] at HSl
  have HId := Lib.hid fun (W : World) (h : SY w w1.heap.size a W) => idle_any 4 a 5 Ch.exL 40 (fun _ => Ch.fa_en) (fun _ => Ch.fa_idS) W h.l
  rw [Ch.fa_opn, if_pos rfl] at HId
  have HRd := Lib.hid fun (W : World) (h : SY w w1.heap.size a W) => reduce_any 4 a 5 Ch.exL 40 (fun _ => Ch.fa_en) (fun _ => Ch.fa_rdS) [0, 1, 3, 4] 0 Ch.fa_rd W h.l
  unfold sysV at *
  have e5 : Ch.exL.length = 5 := rfl
  rw [e5] at HB2 HB3 HCh HSp HSl HId HRd
  clear e5
  have c0 := hS.out.c0
  have c1 := hS.out.c1
  go_wp2_with fail
  generalize w1.alloc (Obj.cells #[.int .i64 4, .slice a 5 5] 24) = W1 at *
  generalize w1.heap.size = sb at *
  refine (HB2.out _ hS.out).mono ?_
  rintro e w2 ⟨rfl, hb⟩
  have hS2 := Lib.hid (hS.out.below hb)
  clear hS hb c0 c1 HB2
  have c0 := hS2.out.c0
  have c1 := hS2.out.c1
  go_wp2_with fail
  refine (HCh.out _ hS2.out).mono ?_
  rintro e w3 ⟨v, rfl, hown, hb⟩
  obtain ⟨p3, q3, rfl, hI3, hx9⟩ := ints_of_own hown
  clear hx9
  have hS3 := Lib.hid (hS2.out.below hb)
  replace hI3 := Lib.hid hI3
  clear hS2 hb c0 c1 HCh hown w2
  have c0 := hS3.out.c0
  have c1 := hS3.out.c1
  go_wp2_with fail
  refine (HSp.out _ hS3.out).mono ?_
  rintro e w4 ⟨hb, h⟩
  rcases h with ⟨h, _⟩ | ⟨hx8, pb, hx9, rfl, hrow⟩
  · exact absurd rfl h
  clear hx8 hx9
  have hS4 := Lib.hid (hS3.out.below hb)
  have hI4 := Lib.hid (hI3.out.below hb)
  replace hrow := Lib.hid hrow
  clear hS3 hb c0 c1 HSp hI3 w3
  have c0 := hS4.out.c0
  have c1 := hS4.out.c1
  go_wp2_with fail
  refine (HB3.out _ hS4.out).mono ?_
  rintro e w5 ⟨rfl, hb⟩
  have hS5 := Lib.hid (hS4.out.below hb)
  have hI5 := Lib.hid (hI4.out.below hb)
  have hrow5 := Lib.hid (Below.row hb hrow.out)
  clear hS4 hb c0 c1 HB3 hI4 hrow w4
  have c0 := hS5.out.c0
  have c1 := hS5.out.c1
  go_wp2_with fail
  refine (HSl.out _ hS5.out).mono ?_
  rintro e w6 ⟨rfl, hb⟩
  have hS6 := Lib.hid (hS5.out.below hb)
  have hI6 := Lib.hid (hI5.out.below hb)
  have hrow6 := Lib.hid (Below.row hb hrow5.out)
  clear hS5 hb c0 c1 HSl hI5 hrow5 w5
  have c0 := hS6.out.c0
  have c1 := hS6.out.c1
  go_wp2_with fail
  refine (HId.out _ hS6.out).mono ?_
  rintro e w7 ⟨v, rfl, hown, hb⟩
  have hid9 : Ch.idleK (Int.toNat 4) Ch.exL 40 5 = [2] := Ch.fa_id
  rw [hid9] at hown
  obtain ⟨p7, q7, rfl, hJ7, hx9⟩ := ints_of_own hown
  clear hx9
  have hS7 := Lib.hid (hS6.out.below hb)
  have hI7 := Lib.hid (hI6.out.below hb)
  have hrow7 := Lib.hid (Below.row hb hrow6.out)
  replace hJ7 := Lib.hid hJ7
  clear hS6 hb c0 c1 HId hI6 hrow6 w6 hown hid9
  have c0 := hS7.out.c0
  have c1 := hS7.out.c1
  go_wp2_with fail
  refine (HRd.out _ hS7.out).mono ?_
  rintro e w8 ⟨v, rfl, hown, hb⟩
  obtain ⟨p8, q8, rfl, hK8, hx9⟩ := ints_of_own hown
  clear hx9
  have hS8 := Lib.hid (hS7.out.below hb)
  have hI8 := Lib.hid (hI7.out.below hb)
  have hJ8 := Lib.hid (hJ7.out.below hb)
  have hrow8 := Lib.hid (Below.row hb hrow7.out)
  replace hK8 := Lib.hid hK8
  clear hS7 hb c0 c1 HRd hI7 hJ7 hrow7 w7 hown
  have c0 := hS8.out.c0
  have c1 := hS8.out.c1
  go_wp2_with fail
  have HSI : Calls Tryz.prog 20 #[.slice p3 2 q3, .slice (some ⟨w8.heap.size, 0, none⟩) 2 2] (w8.alloc (Obj.cells #[.int .i64 0, .int .i64 1] 3)) (TruPost w8) := by
    have hX : Below w8.heap.size w8 (w8.alloc (Obj.cells #[.int .i64 0, .int .i64 1] 3)) := below_alloc (Below.refl _ _) _
    exact si_true p3 q3 [0, 1] (hI8.out) hX (ints_lit w8 [0, 1])
  refine HSI.mono ?_
  rintro e w9 ⟨rfl, hb⟩
  have hS9 := Lib.hid (hS8.out.below hb)
  have hJ9 := Lib.hid (hJ8.out.below hb)
  have hK9 := Lib.hid (hK8.out.below hb)
  have hrow9 := Lib.hid (Below.row hb hrow8.out)
  clear hS8 hb c0 c1 HSI hI8 hJ8 hK8 hrow8
  have r2 : w9.cell? ⟨pb, 2, none⟩ = some (.int .i64 3) := hrow9.out.cell (i := 2) (by omega)
  have r3 : w9.cell? ⟨pb, 3, none⟩ = some (.int .i64 5) := hrow9.out.cell (i := 3) (by omega)
  have r6 : w9.cell? ⟨pb, 6, none⟩ = some (.int .i64 (-1152921504606846976)) := hrow9.out.cell (i := 6) (by omega)
  have r7 : w9.cell? ⟨pb, 7, none⟩ = some (.int .i64 1152921504606846976) := hrow9.out.cell (i := 7) (by omega)
  have hn1 := run_neq_sp 3 5 3 5
  have hn2 := run_neq_sp (-1152921504606846976) 1152921504606846976 (-1152921504606846976) 1152921504606846976
  have hgd := sp_guard
  go_wp2_with fail
  have HSI : Calls Tryz.prog 20 #[.slice p7 1 q7, .slice (some ⟨w9.heap.size, 0, none⟩) 1 1] (w9.alloc (Obj.cells #[.int .i64 2] 3)) (TruPost w9) := by
    have hX : Below w9.heap.size w9 (w9.alloc (Obj.cells #[.int .i64 2] 3)) := below_alloc (Below.refl _ _) _
    exact si_true p7 q7 [2] (hJ9.out) hX (ints_lit w9 [2])
  refine HSI.mono ?_
  rintro e w10 ⟨rfl, hb⟩
  have hS10 := Lib.hid (hS9.out.below hb)
  have hK10 := Lib.hid (hK9.out.below hb)
  clear hS9 hb HSI hJ9 hK9 hrow9 r2 r3 r6 r7 hn1 hn2 hgd
  go_wp2_with fail
  have HSI : Calls Tryz.prog 20 #[.slice p8 4 q8, .slice (some ⟨w10.heap.size, 0, none⟩) 4 4] (w10.alloc (Obj.cells #[.int .i64 0, .int .i64 1, .int .i64 3, .int .i64 4] 3)) (TruPost w10) := by
    have hX : Below w10.heap.size w10 (w10.alloc (Obj.cells #[.int .i64 0, .int .i64 1, .int .i64 3, .int .i64 4] 3)) := below_alloc (Below.refl _ _) _
    exact si_true p8 q8 [0, 1, 3, 4] (hK10.out) hX (ints_lit w10 [0, 1, 3, 4])
  refine HSI.mono ?_
  rintro e w11 ⟨rfl, hb⟩
  have hS11 := Lib.hid (hS10.out.below hb)
  clear hS10 hb HSI hK10
  have c0 := hS11.out.c0
  have c1 := hS11.out.c1
  go_wp2_with fail
  have hX : Below w11.heap.size w11 (w11.alloc (Obj.cells #[.int .i64 1, .int .i64 0, .int .i64 (-6)] 54)) := below_alloc (Below.refl _ _) _
  have hLn : LksAt (w11.alloc (Obj.cells #[.int .i64 1, .int .i64 0, .int .i64 (-6)] 54)) (some ⟨w11.heap.size, 0, none⟩) [⟨1, 0, -6⟩] := lks_block (fun j u hu => by
    have h := World.alloc_heap_new w11 (Obj.cells #[.int .i64 1, .int .i64 0, .int .i64 (-6)] 54)
    simp only [World.cell?, h]
    rw [← hu, ← Array.getElem?_toList]
    rfl)
  have HW := Lib.hid (with_any 4 a (some ⟨w11.heap.size, 0, none⟩) 5 1 5 1 Ch.exL [⟨1, 0, -6⟩] (Lib.hid rfl) (Lib.hid rfl) ha9 (Lib.hid fun h => by cases h) (by omega) _ (Lib.hid (hS11.out.l.below hX)) (Lib.hid hLn))
  rw [Ch.fa_wi] at HW
  unfold sysV at HW
  have hS12 := Lib.hid (hS11.out.b.trans (hX.mono hS11.out.b.size))
  clear hS11 hLn hX
  refine HW.out.mono ?_
  rintro e w12 ⟨kk, v, rfl, hx1, hx2, hb⟩
  obtain ⟨rfl, hown⟩ := hx2 rfl
  obtain ⟨p, cp, rfl, hLW⟩ := lks_of_owns (L := Ch.exW) hown
  have hB12 := hS12.out.trans (hb.mono hS12.out.size)
  rw [show Ch.exW.length = 6 from rfl]
  have hX : Below w12.heap.size w12 (w12.alloc (Obj.cells #[.int .i64 4, .slice p 6 cp] 24)) := below_alloc (Below.refl _ _) _
  have hT := Lib.hid (SWx.mk (w := w) (sb := w12.heap.size) (cp := cp) (W := w12.alloc (Obj.cells #[.int .i64 4, .slice p 6 cp] 24)) (by simp [go_sem]) (by simp [go_sem]) (hLW.below hX) (hB12.trans (hX.mono hB12.size)))
  clear hX hB12 hLW hown hb HW hx1 hx2 hS12 c0 c1 ha9
  have HCl := Lib.hid fun (W : World) (h : SWx w w12.heap.size p cp W) => clashE_any 4 p cp Ch.exW 40 (fun _ => Ch.fw_en) [0, 5] 0 Ch.fw_cl W h.l
  have HSu := Lib.hid fun (W : World) (h : SWx w w12.heap.size p cp W) => suspects_any 4 p cp Ch.exW 40 (fun _ => Ch.fw_en) (fun _ i hi => Option.isSome_iff_exists.1 (Ch.fw_lv i hi)) [0, 5] [0, 5] (fun _ _ => ⟨Ch.fw_c, Ch.fw_so, by decide, by decide⟩) [0, 5] 0 Ch.fw_su W h.l
  unfold sysV at HCl HSu
  rw [show Ch.exW.length = 6 from rfl] at HCl HSu
  have c0 := hT.out.c0
  have c1 := hT.out.c1
  go_wp2_with fail
  generalize w12.alloc (Obj.cells #[.int .i64 4, .slice p 6 cp] 24) = W2 at *
  generalize w12.heap.size = sb2 at *
  refine (HCl.out _ hT.out).mono ?_
  rintro e w13 ⟨v, rfl, hown, hb⟩
  obtain ⟨p13, q13, rfl, hI13, hx9⟩ := ints_of_own hown
  have hT13 := Lib.hid (hT.out.below hb)
  replace hI13 := Lib.hid hI13
  clear hx9 hown hb HCl hT c0 c1
  have c0 := hT13.out.c0
  have c1 := hT13.out.c1
  go_wp2_with fail
  refine (HSu.out _ hT13.out).mono ?_
  rintro e w14 ⟨v, rfl, hown, hb⟩
  obtain ⟨p14, q14, rfl, hJ14, hx9⟩ := ints_of_own hown
  have hT14 := Lib.hid (hT13.out.below hb)
  have hI14 := Lib.hid (hI13.out.below hb)
  replace hJ14 := Lib.hid hJ14
  clear hx9 hown hb HSu hT13 hI13 c0 c1
  have c0 := hT14.out.c0
  have c1 := hT14.out.c1
  go_wp2_with fail
  have HSI : Calls Tryz.prog 20 #[.slice p13 2 q13, .slice (some ⟨w14.heap.size, 0, none⟩) 2 2] (w14.alloc (Obj.cells #[.int .i64 0, .int .i64 5] 3)) (TruPost w14) := by
    have hX : Below w14.heap.size w14 (w14.alloc (Obj.cells #[.int .i64 0, .int .i64 5] 3)) := below_alloc (Below.refl _ _) _
    exact si_true p13 q13 [0, 5] (hI14.out) hX (ints_lit w14 [0, 5])
  refine HSI.mono ?_
  rintro e w15 ⟨rfl, hb⟩
  have hT15 := Lib.hid (hT14.out.below hb)
  have hJ15 := Lib.hid (hJ14.out.below hb)
  clear hT14 hb HSI hI14 hJ14 c0 c1
  have c0 := hT15.out.c0
  have c1 := hT15.out.c1
  go_wp2_with fail
  have HSI : Calls Tryz.prog 20 #[.slice p14 2 q14, .slice (some ⟨w15.heap.size, 0, none⟩) 2 2] (w15.alloc (Obj.cells #[.int .i64 0, .int .i64 5] 3)) (TruPost w15) := by
    have hX : Below w15.heap.size w15 (w15.alloc (Obj.cells #[.int .i64 0, .int .i64 5] 3)) := below_alloc (Below.refl _ _) _
    exact si_true p14 q14 [0, 5] (hJ15.out) hX (ints_lit w15 [0, 5])
  refine HSI.mono ?_
  rintro e w16 ⟨rfl, hb⟩
  have hT16 := Lib.hid (hT15.out.below hb)
  clear hT15 hb HSI hJ15 c0 c1
  have c0 := hT16.out.c0
  have c1 := hT16.out.c1
  go_wp2_with fail
  have hX : Below w16.heap.size w16 (w16.alloc (Obj.cells #[.int .i64 5, .int .i64 0] 3)) := below_alloc (Below.refl _ _) _
  have HK := checkClash_any 4 p cp Ch.exW (some ⟨w16.heap.size, 0, none⟩) 2 (Ch.ints [5, 0]) (w16.alloc (Obj.cells #[.int .i64 5, .int .i64 0] 3)) (hT16.out.l.below hX) (ints_lit w16 [5, 0])
  rw [Ch.fw_ck, show Ch.exW.length = 6 from rfl, ints_len] at HK
  refine HK.mono ?_
  rintro e w17 ⟨rfl, hb⟩
  have hT17 := Lib.hid (hT16.out.below (hX.trans (hb.mono hX.size)))
  clear hT16 hb HK hX c0 c1
  have c0 := hT17.out.c0
  have c1 := hT17.out.c1
  go_wp2_with fail
  have hX : Below w17.heap.size w17 (w17.alloc (Obj.cells #[.int .i64 0, .int .i64 1] 3)) := below_alloc (Below.refl _ _) _
  have HK := checkClash_any 4 p cp Ch.exW (some ⟨w17.heap.size, 0, none⟩) 2 (Ch.ints [0, 1]) (w17.alloc (Obj.cells #[.int .i64 0, .int .i64 1] 3)) (hT17.out.l.below hX) (ints_lit w17 [0, 1])
  rw [Ch.fw_ck2, show Ch.exW.length = 6 from rfl, ints_len] at HK
  refine HK.mono ?_
  rintro e w18 ⟨rfl, hb⟩
  have hT18 := Lib.hid (hT17.out.below (hX.trans (hb.mono hX.size)))
  clear hT17 hb HK hX c0 c1
  go_wp2
  go_ret
  exact ⟨rfl, hT18.out.b⟩
end Go.Proofs.YtemacokojdeimaaGreatDoor
