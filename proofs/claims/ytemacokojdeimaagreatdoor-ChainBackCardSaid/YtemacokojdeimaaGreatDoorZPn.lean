/- chain.Print. -/
import Derived.Test.YtemacokojdeimaaGreatDoorZPl
import Derived.Test.YtemacokojdeimaaGreatDoorZTy
import Derived.Test.YtemacokojdeimaaGreatDoorZ07
set_option linter.unusedSimpArgs false
set_option linter.unusedVariables false
namespace Tx
open Go.Lib
/-- the text behind k links -/
def pf (n : Int) (L : List Ch.Lk) (k : Nat) : List UInt8 := (nodesB ++ sp [n]) ++ [10] ++ (L.take k).flatMap fun l => (linkB ++ sp [l.f, l.t, l.m]) ++ [10]
theorem pf_succ {n : Int} {L : List Ch.Lk} {k : Nat} (h : k < L.length) : pf n L (k + 1) = pf n L k ++ (linkB ++ sp [(L.getD k Ch.noLk).f, (L.getD k Ch.noLk).t, (L.getD k Ch.noLk).m]) ++ [10] := by
  unfold pf
  rw [List.take_succ_eq_append_getElem h, List.flatMap_append]
  simp [h]
theorem pf_all (n : Int) (L : List Ch.Lk) (k : Nat) (h : L.length ≤ k) : pf n L k = prt n L := by
  unfold pf prt line1
  rw [List.take_of_length_le h]
  have e : ∀ l : Ch.Lk, jn 32 (linkB :: [l.f, l.t, l.m].map itoa) = linkB ++ sp [l.f, l.t, l.m] := fun l => jn_sp _ _
  have e2 : jn 32 (nodesB :: [n].map itoa) = nodesB ++ sp [n] := jn_sp _ _
  simp only [e, e2]
  simp
theorem flat_len {α : Type} (f : α → List UInt8) (c : Nat) : ∀ L : List α, (∀ x ∈ L, (f x).length ≤ c) → (L.flatMap f).length ≤ c * L.length
  | [], _ => by simp
  | x :: r, h => by
    have i := flat_len f c r (fun y hy => h y (List.mem_cons_of_mem _ hy))
    have := h x List.mem_cons_self
    simp only [List.flatMap_cons, List.length_append, List.length_cons, Nat.mul_add, Nat.mul_one]
    omega
def R64' (n : Int) : Prop := -9223372036854775808 ≤ n ∧ n ≤ 9223372036854775807
theorem pf_len {n : Int} {L : List Ch.Lk} (k : Nat) (hn : R64' n) (h : ∀ l ∈ L, R64' l.f ∧ R64' l.t ∧ R64' l.m) (hL : L.length ≤ 1000) : (pf n L k).length ≤ 200000 := by
  have h1 := sp_len [n] (fun x hx => by obtain rfl := List.mem_singleton.1 hx; exact hn)
  have h2 := flat_len (fun l : Ch.Lk => (linkB ++ sp [l.f, l.t, l.m]) ++ [10]) 100 (L.take k) (fun l hl => by
    have hl := h l (List.mem_of_mem_take hl)
    have := sp_len [l.f, l.t, l.m] (fun x hx => by
      simp only [List.mem_cons, List.not_mem_nil, or_false] at hx
      rcases hx with rfl | rfl | rfl
      · exact hl.1
      · exact hl.2.1
      · exact hl.2.2)
    simp only [List.length_append, List.length_cons, List.length_nil, linkB] at this ⊢
    omega)
  have h3 : (L.take k).length ≤ 1000 := by rw [List.length_take]; omega
  unfold pf
  simp only [List.length_append, List.length_cons, List.length_nil, nodesB] at h1 ⊢
  omega
end Tx
namespace Go.Proofs.YtemacokojdeimaaGreatDoor
open Go.RowKit

theorem row_new' (W : World) (ns : List Int) (g : Nat) (hg : g = W.heap.size) : RowAt (W.alloc (Obj.cells (ns.map (Value.int .i64)).toArray 3)) g ns := by subst hg; exact row_new W ns
theorem cell_b {B : Nat} {W W' : World} {p : Addr} {x : Value} (h : W.cell? p = some x) (hb : Below B W W') (hp : p.block < B) : W'.cell? p = some x := (hb.cell hp).trans h

set_option maxHeartbeats 1000000 in
theorem print_bad (n : Int) (a : Option Addr) (m cap : Nat) (er at1 : Int) (her : (er != 0) = true) (w : World) (HC : Hid (∀ W : World, Below w.heap.size w W → Calls Tryz.prog 25 #[.agg #[.int .i64 n, .slice a m cap]] W fun e w' => e = .returned (.tuple #[.int .i64 er, .int .i64 at1]) ∧ Below W.heap.size W w')) :
    Calls Tryz.prog 7 #[.agg #[.int .i64 n, .slice a m cap]] w fun e w' => e = .returned (.tuple #[.string ⟨#[]⟩, .int .i64 er]) ∧ Below w.heap.size w w' := by
  go_enter Tryz.func7, Tryz.ntmps7
  go_wp2_with fail
  refine (HC.out _ (by repeat (first | with_reducible exact Below.refl _ _ | with_reducible assumption | refine below_drewN ?_ _ | refine Below.drew ?_ | refine Below.alloc ?_ (by first | (simp; done) | (simp; omega) | omega) _ | refine Below.setCell ?_ (by first | (simp; done) | (simp; omega) | omega) _ | refine Below.trans ?_ (Below.mono (by assumption) (by first | (simp; done) | (simp; omega) | omega))))).mono ?_
  rintro e w1 ⟨rfl, hb1⟩
  go_wp2
  go_ret2
  exact ⟨rfl, (by repeat (first | with_reducible exact Below.refl _ _ | with_reducible assumption | refine below_drewN ?_ _ | refine Below.drew ?_ | refine Below.alloc ?_ (by first | (simp; done) | (simp; omega) | omega) _ | refine Below.setCell ?_ (by first | (simp; done) | (simp; omega) | omega) _ | refine Below.trans ?_ (Below.mono (by assumption) (by first | (simp; done) | (simp; omega) | omega))))⟩

set_option maxRecDepth 100000 in
set_option maxHeartbeats 4000000 in
theorem print_ok (n : Int) (a : Option Addr) (m cap : Nat) (L : List Ch.Lk) (at1 : Int) (hm : Hid (L.length = m)) (hm9 : m ≤ 300) (hR : Hid (Tx.R64' n ∧ ∀ l ∈ L, Tx.R64' l.f ∧ Tx.R64' l.t ∧ Tx.R64' l.m)) (w : World) (hL : Hid (LksAt w a L)) (hT : Hid (Tab w.heap.size w))
    (HC : Hid (∀ W : World, Below w.heap.size w W → Calls Tryz.prog 25 #[.agg #[.int .i64 n, .slice a m cap]] W fun e w' => e = .returned (.tuple #[.int .i64 0, .int .i64 at1]) ∧ Below W.heap.size W w')) :
    Calls Tryz.prog 7 #[.agg #[.int .i64 n, .slice a m cap]] w fun e w' => e = .returned (.tuple #[.string ⟨(Tx.prt n L).toArray⟩, .int .i64 0]) ∧ Below w.heap.size w w' := by
  have hlen : Hid (∀ k, (Tx.pf n L k).length ≤ 200000) := Lib.hid fun k => Tx.pf_len k hR.out.1 hR.out.2 (by have := hm.out; omega)
  go_enter Tryz.func7, Tryz.ntmps7
  go_wp2_with fail
  refine (HC.out _ (by repeat (first | with_reducible exact Below.refl _ _ | with_reducible assumption | refine below_drewN ?_ _ | refine Below.drew ?_ | refine Below.alloc ?_ (by first | (simp; done) | (simp; omega) | omega) _ | refine Below.setCell ?_ (by first | (simp; done) | (simp; omega) | omega) _ | refine Below.trans ?_ (Below.mono (by assumption) (by first | (simp; done) | (simp; omega) | omega))))).mono ?_
  rintro e w1 ⟨rfl, hb1⟩
  have k0 : w1.cell? ⟨w.heap.size, 0, none⟩ = some (.int .i64 n) := kept1 (by simp [go_sem]) hb1
  have k1 : w1.cell? ⟨w.heap.size, 1, none⟩ = some (.slice a m cap) := kept1 (by simp [go_sem]) hb1
  have hbw : Below w.heap.size w w1 := (by repeat (first | with_reducible exact Below.refl _ _ | with_reducible assumption | refine below_drewN ?_ _ | refine Below.drew ?_ | refine Below.alloc ?_ (by first | (simp; done) | (simp; omega) | omega) _ | refine Below.setCell ?_ (by first | (simp; done) | (simp; omega) | omega) _ | refine Below.trans ?_ (Below.mono (by assumption) (by first | (simp; done) | (simp; omega) | omega))))
  have hB : Hid (w.heap.size < w1.heap.size) := Lib.hid (block_lt_of_cell k0)
  have hB1 := hB.out
  clear hb1 HC
  go_wp2_with fail
  have hT1 : Hid (Tab w1.heap.size w1) := Lib.hid (Tab.mono (hT.out.on hbw) (Nat.le_of_lt hB.out))
  refine (printLine_any w1.heap.size w1.heap.size (w1.heap.size + 1) 1 1 [n] [] ⟨#[110, 111, 100, 101, 115]⟩ (Lib.hid rfl) (Lib.hid (fun x hx => by obtain rfl := List.mem_singleton.1 hx; exact hR.out.1)) (Lib.hid (by omega)) (Lib.hid (by decide)) (by decide) ((w1.alloc (Obj.cells #[.pointer none, .slice none 0 0] 61)).alloc (Obj.cells #[.int .i64 n] 3)) (tab_on hT1 (by repeat (first | with_reducible exact Below.refl _ _ | with_reducible assumption | refine below_drewN ?_ _ | refine Below.drew ?_ | refine Below.alloc ?_ (by first | (simp; done) | (simp; omega) | omega) _ | refine Below.setCell ?_ (by first | (simp; done) | (simp; omega) | omega) _ | refine Below.trans ?_ (Below.mono (by assumption) (by first | (simp; done) | (simp; omega) | omega)))))
    (Lib.hid ⟨(bd_new w1).below (by repeat (first | with_reducible exact Below.refl _ _ | with_reducible assumption | refine below_drewN ?_ _ | refine Below.drew ?_ | refine Below.alloc ?_ (by first | (simp; done) | (simp; omega) | omega) _ | refine Below.setCell ?_ (by first | (simp; done) | (simp; omega) | omega) _ | refine Below.trans ?_ (Below.mono (by assumption) (by first | (simp; done) | (simp; omega) | omega)))), row_new' _ [n] _ (by simp), Below.refl _ _⟩)).mono ?_
  rintro e w2 ⟨rfl, h2⟩
  have hb2 : Below w1.heap.size w1 w2 := by
    refine Below.trans ?_ h2.out.b
    exact (by repeat (first | with_reducible exact Below.refl _ _ | with_reducible assumption | refine below_drewN ?_ _ | refine Below.drew ?_ | refine Below.alloc ?_ (by first | (simp; done) | (simp; omega) | omega) _ | refine Below.setCell ?_ (by first | (simp; done) | (simp; omega) | omega) _ | refine Below.trans ?_ (Below.mono (by assumption) (by first | (simp; done) | (simp; omega) | omega))))
  have hd : Hid (Bd w1.heap.size w1.heap.size (Tx.pf n L 0) w2) := Lib.hid (by simpa [Tx.pf, Tx.nodesB] using h2.out.d)
  replace k1 := cell_b k1 hb2 hB.out
  have hT2 : Hid (Tab w1.heap.size w2) := tab_on hT1 hb2
  have hbw2 : Below w.heap.size w w2 := hbw.trans (hb2.mono (Nat.le_of_lt hB.out))
  clear h2 hb2 hbw hT1 k0 hB1
  have hz2 := hd.out.2
  generalize w1.heap.size = B at hd hT2 hB hz2 ⊢
  go_wp2
  go_loopw [24] (fun i wr => ∃ k : Nat, k ≤ m ∧ i = .int .i64 k ∧ Hid (Bd B B (Tx.pf n L k) wr) ∧ Hid (Tab B wr) ∧ Below w.heap.size w wr) (fun i _ => m - (RowKit.intOf i).toNat)
  case atStart => exact ⟨0, Nat.zero_le _, rfl, hd, hT2, hbw2⟩
  case round =>
    obtain ⟨k, hk, rfl, hd, hT, hb⟩ := hrel
    by_cases hlt : k < m
    · obtain ⟨f, t, mo, hl⟩ : ∃ f t mo, L.getD k Ch.noLk = ⟨f, t, mo⟩ := ⟨_, _, _, rfl⟩
      have hkL : k < L.length := by have := hm.out; omega
      have hl3 := (hL.out k hkL)
      obtain ⟨x, rfl, hl3⟩ := hl3
      have ⟨hc0, hc1, hc2⟩ := hl3.below hb
      have hr := hR.out.2 (L.getD k Ch.noLk) (by rw [List.getD, List.getElem?_eq_getElem hkL]; exact List.getElem_mem hkL)
      have hst := Lib.hid (Tx.pf_succ (n := n) hkL)
      rw [hl] at hc0 hc1 hc2 hr hst
      simp only at hr
      replace hr := Lib.hid hr
      clear hl3 hl
      have hi5 : (k : Int) < (m : Int) := by omega
      go_wp2_with fail
      refine (printLine_any B B (wr.heap.size + 1) 3 3 [f, t, mo] (Tx.pf n L k) ⟨#[108, 105, 110, 107]⟩ (Lib.hid rfl) (Lib.hid (fun x hx => by
          simp only [List.mem_cons, List.not_mem_nil, or_false] at hx
          rcases hx with rfl | rfl | rfl
          · exact hr.out.1
          · exact hr.out.2.1
          · exact hr.out.2.2)) (Lib.hid (by have := hd.out.2; omega)) (Lib.hid (by have h1 := hlen.out k; exact ⟨by omega, by decide, by decide⟩)) (by decide) ((wr.alloc (Obj.cells #[.int .i64 f, .int .i64 t, .int .i64 mo] 54)).alloc (Obj.cells #[.int .i64 f, .int .i64 t, .int .i64 mo] 3)) (tab_on hT (Below.mono (by repeat (first | with_reducible exact Below.refl _ _ | with_reducible assumption | refine below_drewN ?_ _ | refine Below.drew ?_ | refine Below.alloc ?_ (by first | (simp; done) | (simp; omega) | omega) _ | refine Below.setCell ?_ (by first | (simp; done) | (simp; omega) | omega) _ | refine Below.trans ?_ (Below.mono (by assumption) (by first | (simp; done) | (simp; omega) | omega)))) hd.out.2))
        (Lib.hid ⟨hd.out.below (by repeat (first | with_reducible exact Below.refl _ _ | with_reducible assumption | refine below_drewN ?_ _ | refine Below.drew ?_ | refine Below.alloc ?_ (by first | (simp; done) | (simp; omega) | omega) _ | refine Below.setCell ?_ (by first | (simp; done) | (simp; omega) | omega) _ | refine Below.trans ?_ (Below.mono (by assumption) (by first | (simp; done) | (simp; omega) | omega)))), row_new' _ [f, t, mo] _ (by simp), Below.refl _ _⟩)).mono ?_
      rintro e w3 ⟨rfl, h3⟩
      have hb3 : Below B wr w3 := by
        refine Below.trans ?_ h3.out.b
        exact Below.mono (by repeat (first | with_reducible exact Below.refl _ _ | with_reducible assumption | refine below_drewN ?_ _ | refine Below.drew ?_ | refine Below.alloc ?_ (by first | (simp; done) | (simp; omega) | omega) _ | refine Below.setCell ?_ (by first | (simp; done) | (simp; omega) | omega) _ | refine Below.trans ?_ (Below.mono (by assumption) (by first | (simp; done) | (simp; omega) | omega)))) hd.out.2
      have hd3 : Hid (Bd B B (Tx.pf n L (k + 1)) w3) := Lib.hid (by rw [hst.out]; exact h3.out.d)
      have hT3 := tab_on hT hb3
      have hbw3 : Below w.heap.size w w3 := hb.trans (hb3.mono (Nat.le_of_lt hB.out))
      clear h3 hb3 hT hd hb
      go_wp2
      go_roundw
      case rel => exact ⟨k + 1, by omega, by go_num, hd3, hT3, hbw3⟩
      case measure => first | (simp [RowKit.intOf]; done) | (simp [RowKit.intOf]; omega) | omega
    · obtain rfl : k = m := by omega
      have hi5 : ¬ (k : Int) < (k : Int) := by omega
      go_wp2_with fail
      refine (builderString_any B B _ wr hd).mono ?_
      rintro e w3 ⟨rfl, hb3⟩
      have hbw3 : Below w.heap.size w w3 := hb.trans (hb3.mono (Nat.le_of_lt hB.out))
      rw [Tx.pf_all n L k (by have := hm.out; omega)]
      go_wp2
      go_ret2
      exact ⟨rfl, hbw3⟩

/-- Print -/
theorem print_any (n : Int) (a : Option Addr) (cap : Nat) (L : List Ch.Lk) (w : World) (hL : Hid (LksAt w a L)) (hT : Hid (Tab w.heap.size w)) :
    Calls Tryz.prog 7 #[sysV n a L.length cap] w fun e w' => e = .returned (.tuple #[.string ⟨(if (Ch.check n L).1 = 0 then Tx.prt n L else []).toArray⟩, .int .i64 (Ch.check n L).1]) ∧ Below w.heap.size w w' := by
  have HC := Lib.hid fun (W : World) (hb : Below w.heap.size w W) => check_any n a cap L W (hL.out.below hb)
  by_cases h : (Ch.check n L).1 = 0
  · rw [if_pos h]
    obtain ⟨h1, h2, h3⟩ := Tx.check_rng h
    rw [h] at HC ⊢
    exact print_ok n a L.length cap L _ (Lib.hid rfl) h2 (Lib.hid ⟨by unfold Tx.R64'; omega, fun l hl => by have := h3 l hl; unfold Tx.R64'; omega⟩) w hL hT HC
  · rw [if_neg h]
    exact print_bad n a L.length cap _ _ (by simpa using h) w HC
end Go.Proofs.YtemacokojdeimaaGreatDoor
