/- chain.readLine. -/
import Derived.Test.YtemacokojdeimaaGreatDoorZVr
set_option linter.unusedSimpArgs false
set_option linter.unusedVariables false
namespace Tx
open Go.Lib
theorem nums_drop {l : List (List UInt8)} {k : Nat} (h : k < l.length) : nums (l.drop k) = match atoiAll (l.getD k []) with
    | .ok n => if itoa n = l.getD k [] then (nums (l.drop (k + 1))).map (n :: ·) else none
    | _ => none := by
  rw [List.drop_eq_getElem_cons h, List.getD, List.getElem?_eq_getElem h]
  rfl
theorem jn_mem (c : UInt8) : ∀ (l : List (List UInt8)) (a : List UInt8), a ∈ l → a.length ≤ (jn c l).length
  | [], _, h => by cases h
  | [b], a, h => by obtain rfl := List.mem_singleton.1 h; exact Nat.le_refl _
  | b :: d :: r, a, h => by
    have i := jn_mem c (d :: r) a
    show a.length ≤ (b ++ c :: jn c (d :: r)).length
    rw [List.length_append, List.length_cons]
    rcases List.mem_cons.1 h with rfl | h
    · omega
    · have := i h; omega
theorem split_mem {s a : List UInt8} {n : Nat} (h : a ∈ splitN s [32] n) : a.length ≤ s.length := by
  have := jn_mem 32 _ _ h
  unfold splitN at this
  rw [splitK_jn] at this
  exact this
end Tx
namespace Go.Proofs.YtemacokojdeimaaGreatDoor
open Go.RowKit

theorem own_bel {W W' : World} {B : Nat} {e : TypeId} {z : Nat} {v : Value} {n : Nat} {xs : List Value} (h : W.ownsRow B e z v n xs) (hb : Below W.heap.size W W') : W'.ownsRow B e z v n xs := by
  obtain ⟨h1, h2⟩ := h
  refine ⟨h1, ?_⟩
  rcases h2 with h2 | ⟨g, cap, cur, hv, hBg, hg, r⟩
  · exact .inl h2
  · exact .inr ⟨g, cap, cur, hv, hBg, (hb.block g (Array.getElem?_eq_some_iff.1 hg).1).trans hg, r⟩
theorem ints_of_ownT {W : World} {B : Nat} {v : Value} {l : List Int} (h : W.ownsRow B 3 1 v l.length (l.map (Value.int .i64))) (hl : l ≠ []) : ∃ g cp, v = .slice (some ⟨g, 0, none⟩) l.length cp ∧ B ≤ g ∧ ∀ k, k < l.length → W.cell? ⟨g, k, none⟩ = some (.int .i64 (l.getD k 0)) := by
  rcases h.2 with ⟨hv, h0⟩ | ⟨g, cap, cur, hv, hB, hgb, _, _, _, ht⟩
  · exact (hl (List.length_eq_zero_iff.1 h0)).elim
  · refine ⟨g, cap, hv, hB, fun k hk => ?_⟩
    have hu : (l.map (Value.int .i64))[k]? = some (.int .i64 (l.getD k 0)) := by
      rw [List.getElem?_map, List.getD, List.getElem?_eq_getElem hk]; rfl
    rw [← ht, List.getElem?_take_of_lt (by omega), Array.getElem?_toList] at hu
    simp [World.cell?, hgb, hu]

theorem cell_fr {W W1 : World} {v : Value} {B : Nat} {p : Addr} {x : Value} (hg : W.grownBy W1 v.ownBlock) (hf : ∀ g, v.ownBlock = some g → B ≤ g) (hp : p.block < B) (h : W.cell? p = some x) : W1.cell? p = some x :=
  (World.cell?_of_block (hg.block _ (block_lt_of_cell h) (fun e => by have := hf _ e.symm; omega))).trans h
theorem str_ne {a b : ByteArray} (h : a ≠ b) : (a.toList == b.toList) = false := by
  rw [beq_eq_false_iff_ne]
  intro e
  rw [ByteArray.toList_eq, ByteArray.toList_eq] at e
  exact h (ByteArray.ext (Array.ext' e))

/-- what readLine leaves -/
def RlPost (w : World) (r : Option (List Int)) (e : Ending) (w' : World) : Prop :=
  Below w.heap.size w w' ∧ match r with
  | some ns => ∃ g cp, e = .returned (.tuple #[.slice (some ⟨g, 0, none⟩) ns.length cp, .bool true]) ∧ Hid (w.heap.size ≤ g) ∧ Hid (∀ k, k < ns.length → w'.cell? ⟨g, k, none⟩ = some (.int .i64 (ns.getD k 0)))
  | none => e = .returned (.tuple #[.slice none 0 0, .bool false])

/-- while the words of a line are read -/
structure RLs (w : World) (sb : Nat) (ps : List ByteArray) (acc : List Int) (v : Value) (W : World) : Prop where
  b : Below w.heap.size w W
  p : PcAt W sb ps
  o : W.ownsRow (sb + 1) 3 1 v acc.length (acc.map (Value.int .i64))
theorem RLs.below {w : World} {sb : Nat} {ps : List ByteArray} {acc : List Int} {v : Value} {W W' : World} (h : RLs w sb ps acc v W) (hb : Below W.heap.size W W') : RLs w sb ps acc v W' :=
  ⟨h.b.trans (hb.mono h.b.size), h.p.below hb, own_bel h.o hb⟩

set_option maxRecDepth 100000 in
set_option maxHeartbeats 4000000 in
theorem readLine_any (s wd : ByteArray) (c : Nat) (hs : s.size ≤ 1000000) (hc : 1 ≤ c) (hc2 : c ≤ 10) (w : World) (V : Vars w) (hT : Hid (Tab w.heap.size w)) :
    Calls Tryz.prog 56 #[.string s, .string wd, .int .i64 c] w (RlPost w (Tx.rl s.data.toList wd.data.toList c)) := by
  obtain ⟨r, hr⟩ : ∃ r, Tx.rl s.data.toList wd.data.toList c = r := ⟨_, rfl⟩
  rw [hr]
  unfold Tx.rl at hr
  have HS := Lib.hid (splitN_any s (c + 2) hs (by omega) (by omega) w V)
  have V1 : Hid (∀ W : World, Below w.heap.size w W → Nonempty (Vars W)) := Lib.hid fun W hb => ⟨V.on hb⟩
  obtain ⟨i0, hi, hz0, hz1, hz2⟩ := info_parts infoInt
  replace hr := Lib.hid hr
  clear V
  have hcc : ((c + 2 : Nat) : Int) = (c : Int) + 2 := by omega
  go_enter Tryz.func56, Tryz.ntmps56
  go_wp2_with fail
  rw [← hcc]
  refine HS.out.mono ?_
  rintro e w1 ⟨ps, cp, rfl, hps, hne, hcp, hpc, hz1', hb1⟩
  have hpl : Hid ((Lib.splitN s.data.toList [32] (c + 2)).length = ps.length) := Lib.hid (by rw [← hps.out]; simp)
  have hpos : 0 < ps.length := List.length_pos_iff.2 hne.out
  have hhead : Hid ((Lib.splitN s.data.toList [32] (c + 2)).head? = some (ps.getD 0 ByteArray.empty).data.toList) := Lib.hid (by
    rw [← hps.out]
    cases ps with
    | nil => exact (hne.out rfl).elim
    | cons a b => rfl)
  clear HS hcc
  have c0 : w1.cell? ⟨w.heap.size, 0, none⟩ = some (.string (ps.getD 0 ByteArray.empty)) := hpc.out 0 hpos
  have hwz : Hid (∀ k, k < ps.length → (ps.getD k ByteArray.empty).size ≤ 1000000) := Lib.hid fun k hk => by
    have hm : (ps.getD k ByteArray.empty).data.toList ∈ Lib.splitN s.data.toList [32] (c + 2) := by
      rw [← hps.out, List.getD, List.getElem?_eq_getElem hk]
      exact List.mem_map_of_mem (List.getElem_mem hk)
    have h0 := Tx.split_mem hm
    have h1 : (ps.getD k ByteArray.empty).data.toList.length = (ps.getD k ByteArray.empty).size := by simp
    have h2 : s.data.toList.length = s.size := by simp
    omega
  obtain ⟨p0, hp0⟩ : ∃ p0, ps.getD 0 ByteArray.empty = p0 := ⟨_, rfl⟩
  rw [hp0] at c0 hhead
  clear hp0
  by_cases h1 : ps.length = c + 1
  · have n1 : ((ps.length : Int) != (c : Int) + 1) = false := by rw [h1]; simp
    have hpos2 : (0 : Int) < (ps.length : Int) := by omega
    by_cases h2 : p0 = wd
    · subst h2
      have hr2 : Hid (r = (Tx.nums ((ps.tail.map (·.data.toList)).drop 0)).map ([] ++ ·)) := Lib.hid (by
        rw [← hr.out, if_pos ⟨by rw [hpl.out, h1], hhead.out⟩, ← hps.out, List.map_tail, List.drop_zero]
        cases Tx.nums (List.map (fun x => x.data.toList) ps).tail <;> rfl)
      have hcl : Hid ((ps.tail.map (·.data.toList)).length = c) := Lib.hid (by rw [List.length_map, List.length_tail]; omega)
      have htg : Hid (∀ k, k < c → (ps.tail.map (·.data.toList)).getD k [] = (ps.getD (k + 1) ByteArray.empty).data.toList) := Lib.hid (fun k hk => by
        have h3 : k + 1 < ps.length := by omega
        rw [List.getD, List.getElem?_eq_getElem (by rw [hcl.out]; exact hk), List.getD, List.getElem?_eq_getElem h3]
        simp)
      have hst : Hid (RLs w w.heap.size ps [] (.slice none 0 0) w1) := Lib.hid ⟨hb1, hpc.out, World.ownsRow_nil _ _ _ _⟩
      generalize ps.tail.map (·.data.toList) = tl at hr2 hcl htg
      clear hr hhead hps hne hpl hpc
      have h1i : (ps.length : Int) = (c : Int) + 1 := by omega
      have hcp2 : (c : Int) + 1 ≤ (cp : Int) := by omega
      rw [h1] at hcp hpos
      have hz1 := hz1'
      rw [h1]
      go_wp2
      go_loopw [9, 33] (fun v i wr => ∃ (k : Nat) (acc : List Int), k ≤ c ∧ i = .int .i64 k ∧ Hid (acc.length = k) ∧ Hid (RLs w w.heap.size ps acc v wr) ∧ Hid (r = (Tx.nums (tl.drop k)).map (acc ++ ·))) (fun _ i _ => c - (RowKit.intOf i).toNat)
      case atStart => exact ⟨0, [], Nat.zero_le _, rfl, Lib.hid rfl, hst, hr2⟩
      case round =>
        clear hst hr2
        obtain ⟨k, acc, hk, rfl, hal, hrs, hrr⟩ := hrel
        have hlc := hcl.out
        by_cases hlt : k < c
        · have hi5 : (k : Int) < (c : Int) := by omega
          obtain ⟨wo, hwo⟩ : ∃ wo, ps.getD (k + 1) ByteArray.empty = wo := ⟨_, rfl⟩
          have hws : wo.size ≤ 1000000 := by rw [← hwo]; exact hwz.out (k + 1) (by omega)
          have hcw : wr.cell? ⟨w.heap.size, k + 1, none⟩ = some (.string wo) := by rw [← hwo]; exact hrs.out.p (k + 1) (by omega)
          have hcw2 : wr.cell? ⟨w.heap.size, 1 + k, none⟩ = some (.string wo) := by rw [Nat.add_comm]; exact hcw
          have hsz := block_lt_of_cell hcw
          have hnd := Tx.nums_drop (l := tl) (k := k) (by omega)
          rw [htg.out k hlt, hwo] at hnd
          obtain ⟨V'⟩ := V1.out wr hrs.out.b
          clear hwo
          by_cases hok : ∃ z, Lib.atoiAll wo.data.toList = .ok z
          · obtain ⟨z, hz⟩ := hok
            have hzr := Lib.hid (Tx.atoi_range hz)
            have HA := Lib.hid (atoi_ok wo hws z hz)
            rw [hz] at hnd
            simp only at hnd
            by_cases hiz : Lib.itoa z = wo.data.toList
            · rw [if_pos hiz] at hnd
              have hwe : (⟨(Lib.itoa z).toArray⟩ : ByteArray) = wo := by rw [hiz]
              have hrr2 : Hid (r = (Tx.nums (tl.drop (k + 1))).map ((acc ++ [z]) ++ ·)) := Lib.hid (by
                rw [hrr.out, hnd]
                cases Tx.nums (tl.drop (k + 1)) <;> simp)
              replace hwe := Lib.hid hwe
              clear hnd hrr hiz hz V'
              go_wp2_with fail
              refine (HA.out _).mono ?_
              rintro e w2 ⟨rfl, hb2⟩
              have hrs2 := Lib.hid (hrs.out.below hb2)
              clear hrs hb2 hcw hcw2 hsz HA
              go_wp2_with fail
              refine (itoa_any z hzr.out w2 w.heap.size (tab_on hT hrs2.out.b)).mono ?_
              rintro e w3 ⟨rfl, hb3⟩
              rw [hwe.out]
              have hrs3 := Lib.hid (hrs2.out.below hb3)
              clear hrs2 hb3
              have hown := hrs3.out.o
              have hbs := hrs3.out.b.size
              have hsz3 : w.heap.size < w3.heap.size := block_lt_of_cell (hrs3.out.p 0 (by omega))
              have hal2 := hal.out
              go_wp2_with (first
                | (at_builtin; refine wpList_append_own _ rfl (.tmp 50) (.tmp 52) 41 rfl (w.heap.size + 1) 3 i0 (.int .i64 0) 1 8 Tryz.underlying41 hi hz0 (by assumption) hz2 rfl (by decide) _ _ _ rfl (hown.alloc _) ⟨w3.heap.size, 0, none⟩ 1 1 [.int .i64 z] rfl rfl ?c1 ?c2 ?c3 ?c4 ?c5 ?_)
                | fail)
              case c1 =>
                intro j u hj
                match j, hj with
                | 0, hj => simp at hj; subst hj; simp [Addr.add]
              case c2 => intro u hu; simp at hu; subst hu; rfl
              case c3 => unfold maxLen; omega
              case c4 => omega
              case c5 => simp; omega
              intro v' w4 hown' hgrow hnn
              have hrs4 : Hid (RLs w w.heap.size ps (acc ++ [z]) v' w4) := Lib.hid ⟨(hrs3.out.b.alloc (by omega) _).grown hgrow (by simp; omega) (fun g hg => by have := owns_far hown hg; omega), fun i hi => cell_fr hgrow (fun g hg => owns_far hown hg) (by show w.heap.size < _; omega) (kept1 (hrs3.out.p i hi) ((Below.refl _ _).alloc (Nat.le_refl _) _)), by rw [List.length_append, List.map_append, hal.out]; exact hown'⟩
              clear hown hown' hgrow hnn hrs3 hbs
              go_wp2
              go_roundw
              case rel => exact ⟨k + 1, acc ++ [z], by omega, by go_num, Lib.hid (by rw [List.length_append, hal.out]; rfl), hrs4, hrr2⟩
              case measure => first | (simp [RowKit.intOf]; done) | (simp [RowKit.intOf]; omega) | omega
            · rw [if_neg hiz] at hnd
              have hr0 : r = none := by rw [hrr.out, hnd]; rfl
              obtain ⟨sz, hsz9⟩ : ∃ sz, (⟨(Lib.itoa z).toArray⟩ : ByteArray) = sz := ⟨_, rfl⟩
              have n3 : (sz.toList == wo.toList) = false := str_ne (fun e => hiz (by rw [← e, ← hsz9]))
              replace hsz9 := Lib.hid hsz9
              subst hr0
              clear hnd hrr hiz hz V'
              go_wp2_with fail
              refine (HA.out _).mono ?_
              rintro e w2 ⟨rfl, hb2⟩
              have hrs2 := Lib.hid (hrs.out.below hb2)
              clear hrs hb2 hcw hcw2 hsz HA
              go_wp2_with fail
              refine (itoa_any z hzr.out w2 w.heap.size (tab_on hT hrs2.out.b)).mono ?_
              rintro e w3 ⟨rfl, hb3⟩
              rw [hsz9.out]
              have hbw := hrs2.out.b
              go_wp2
              go_ret2
              exact ⟨hbw.trans (hb3.mono hbw.size), rfl⟩
          · have hok' : ∀ z, Lib.atoiAll wo.data.toList ≠ .ok z := fun z hz => hok ⟨z, hz⟩
            have hr0 : r = none := by
              rw [hrr.out, hnd]
              cases h : Lib.atoiAll wo.data.toList with
              | ok z => exact (hok' z h).elim
              | «syntax» => rfl
              | range => rfl
            subst hr0
            have hbw := hrs.out.b
            clear hnd hrr hok
            go_wp2_with fail
            refine (atoi_no wo hws hok' _ V').mono ?_
            rintro e w2 ⟨⟨x, N, rfl⟩, hb2⟩
            go_wp2
            go_ret2
            exact ⟨(by repeat (first | with_reducible exact Below.refl _ _ | with_reducible assumption | refine below_drewN ?_ _ | refine Below.drew ?_ | refine Below.alloc ?_ (by first | (simp; done) | (simp; omega) | omega) _ | refine Below.setCell ?_ (by first | (simp; done) | (simp; omega) | omega) _ | refine Below.trans ?_ (Below.mono (by assumption) (by first | (simp; done) | (simp; omega) | omega)))), rfl⟩
        · obtain rfl : k = c := by omega
          have hi5 : ¬ (k : Int) < (k : Int) := by omega
          have hr0 : r = some acc := by
            rw [hrr.out, List.drop_of_length_le (by omega)]
            show some (acc ++ []) = _
            rw [List.append_nil]
          have hne : acc ≠ [] := fun e => by have := hal.out; rw [e] at this; simp at this; omega
          obtain ⟨g, cp', hv, hg, hcs⟩ := ints_of_ownT hrs.out.o hne
          subst hv
          subst hr0
          have hbw := hrs.out.b
          clear hrr
          go_wp2
          go_ret2
          exact ⟨hbw, g, cp', rfl, Lib.hid (by omega), Lib.hid hcs⟩
    · have n2 := str_ne h2
      have e2 : r = none := by
        rw [← hr.out, if_neg]
        rintro ⟨_, h3⟩
        rw [hhead.out] at h3
        exact h2 (ByteArray.ext (Array.ext' (Option.some.inj h3)))
      subst e2
      clear hr hhead hps hne hpl
      go_wp2
      go_ret2
      exact ⟨(by repeat (first | with_reducible exact Below.refl _ _ | with_reducible assumption | refine below_drewN ?_ _ | refine Below.drew ?_ | refine Below.alloc ?_ (by first | (simp; done) | (simp; omega) | omega) _ | refine Below.setCell ?_ (by first | (simp; done) | (simp; omega) | omega) _ | refine Below.trans ?_ (Below.mono (by assumption) (by first | (simp; done) | (simp; omega) | omega)))), rfl⟩
  · have n1 : ((ps.length : Int) != (c : Int) + 1) = true := by rw [bne_iff_ne]; omega
    have e2 : r = none := by
      rw [← hr.out, if_neg]
      rintro ⟨h3, _⟩
      rw [hpl.out] at h3
      exact h1 h3
    subst e2
    clear hr hhead hps hne hpl
    go_wp2
    go_ret2
    exact ⟨(by repeat (first | with_reducible exact Below.refl _ _ | with_reducible assumption | refine below_drewN ?_ _ | refine Below.drew ?_ | refine Below.alloc ?_ (by first | (simp; done) | (simp; omega) | omega) _ | refine Below.setCell ?_ (by first | (simp; done) | (simp; omega) | omega) _ | refine Below.trans ?_ (Below.mono (by assumption) (by first | (simp; done) | (simp; omega) | omega)))), rfl⟩
end Go.Proofs.YtemacokojdeimaaGreatDoor
