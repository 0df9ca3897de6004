/- chain.printLine: a word and numbers, written into a builder. -/
import Derived.Test.YtemacokojdeimaaGreatDoorZBu
set_option linter.unusedSimpArgs false
set_option linter.unusedVariables false
namespace Tx
/-- numbers, a blank ahead of each -/
def sp (ns : List Int) : List UInt8 := ns.flatMap fun n => 32 :: Go.Lib.itoa n
theorem jn_sp : ∀ (w : List UInt8) (ns : List Int), jn 32 (w :: ns.map Go.Lib.itoa) = w ++ sp ns
  | w, [] => by simp [jn, sp]
  | w, n :: r => by
    have := jn_sp (Go.Lib.itoa n) r
    rw [List.map_cons]
    show w ++ 32 :: jn 32 (Go.Lib.itoa n :: r.map Go.Lib.itoa) = _
    rw [this]
    simp [sp]
theorem sp_take {ns : List Int} {k : Nat} (h : k < ns.length) : sp (ns.take (k + 1)) = sp (ns.take k) ++ (32 :: Go.Lib.itoa (ns.getD k 0)) := by
  unfold sp
  rw [List.take_succ_eq_append_getElem h, List.flatMap_append]
  simp [h]
theorem sp_len : ∀ (ns : List Int), (∀ n ∈ ns, -9223372036854775808 ≤ n ∧ n ≤ 9223372036854775807) → (sp ns).length ≤ 22 * ns.length
  | [], _ => by simp [sp]
  | n :: r, h => by
    have i := sp_len r (fun x hx => h x (List.mem_cons_of_mem _ hx))
    have hn := h n List.mem_cons_self
    have := Go.Lib.itoa_length_le n hn.1 hn.2
    simp only [sp, List.flatMap_cons, List.length_append, List.length_cons] at i ⊢
    omega
end Tx
namespace Go.Proofs.YtemacokojdeimaaGreatDoor
open Go.RowKit

/-- what stands while a line is written -/
structure PLs (B b g : Nat) (ns : List Int) (l : List UInt8) (w W : World) : Prop where
  d : Bd B b l W
  r : RowAt W g ns
  b : Below B w W
theorem PLs.below {B b g : Nat} {ns : List Int} {l : List UInt8} {w W W' : World} (h : PLs B b g ns l w W) (hb : Below W.heap.size W W') : PLs B b g ns l w W' := ⟨h.d.below hb, h.r.kept (Kp.of (b := g + 1) hb) (by omega), h.b.trans (hb.mono h.d.2)⟩

set_option maxRecDepth 100000 in
set_option maxHeartbeats 2000000 in
theorem printLine_any (B b g cap m : Nat) (ns : List Int) (l : List UInt8) (wd : ByteArray) (hm : Hid (ns.length = m)) (hn : Hid (∀ n ∈ ns, -9223372036854775808 ≤ n ∧ n ≤ 9223372036854775807)) (hg : Hid (g ≠ b))
    (hl : Hid (l.length ≤ 100000000 ∧ wd.size ≤ 1000 ∧ m ≤ 1000)) (hm2 : m ≤ 1000) (w : World) (hT : Hid (Tab B w)) (hP : Hid (PLs B b g ns l w w)) :
    Calls Tryz.prog 26 #[.pointer (some ⟨b, 0, none⟩), .string wd, .slice (some ⟨g, 0, none⟩) m cap] w fun e w' => e = .returned (.tuple #[]) ∧ Hid (PLs B b g ns (l ++ (wd.data.toList ++ Tx.sp ns) ++ [10]) w w') := by
  have hwd : wd.data.toList.length = wd.size := by simp
  replace hwd := Lib.hid hwd
  go_enter Tryz.func26, Tryz.ntmps26
  go_wp2_with fail
  refine (writeString_any B b l wd w (Lib.hid hP.out.d) (Lib.hid (by have := hl.out; omega))).mono ?_
  rintro e w1 ⟨rfl, h1, b1, k1⟩
  have hP1 : Hid (PLs B b g ns (l ++ wd.data.toList) w w1) := Lib.hid ⟨h1.out, hP.out.r.kept k1.out hg.out, b1⟩
  clear h1 b1 k1
  go_wp2
  go_loopw [13] (fun i wr => ∃ k : Nat, k ≤ m ∧ i = .int .i64 k ∧ Hid (PLs B b g ns (l ++ (wd.data.toList ++ Tx.sp (ns.take k))) w wr)) (fun i _ => m - (RowKit.intOf i).toNat)
  case atStart => exact ⟨0, Nat.zero_le _, rfl, Lib.hid (by simpa [Tx.sp] using hP1.out)⟩
  case round =>
    obtain ⟨k, hk, rfl, hr⟩ := hrel
    by_cases hlt : k < m
    · have hlt2 : k < ns.length := by have := hm.out; omega
      have hi5 : (k : Int) < (m : Int) := by omega
      have hc := hr.out.r.cell hlt2
      have hx := hn.out (ns.getD k 0) (by rw [List.getD, List.getElem?_eq_getElem hlt2]; exact List.getElem_mem hlt2)
      have hst := Lib.hid (Tx.sp_take hlt2)
      have hsl := Tx.sp_len (ns.take k) (fun x hx => hn.out x (List.mem_of_mem_take hx))
      have hll : Hid ((l ++ (wd.data.toList ++ Tx.sp (ns.take k))).length ≤ 200000000) := Lib.hid (by
        have h1 := hl.out
        have h2 := hwd.out
        simp only [List.length_append, List.length_take] at hsl ⊢
        omega)
      obtain ⟨z, hz⟩ : ∃ z, ns.getD k 0 = z := ⟨_, rfl⟩
      rw [hz] at hc hx hst
      replace hx := Lib.hid hx
      have hil := Lib.hid (Lib.itoa_length_le z hx.out.1 hx.out.2)
      clear hz hsl
      go_wp2_with fail
      refine (writeByte_any B b _ 32 32 (Lib.hid rfl) _ (Lib.hid hr.out.d) (Lib.hid (by have := hll.out; omega))).mono ?_
      rintro e w2 ⟨rfl, h2, b2, k2⟩
      have hP2 : Hid (PLs B b g ns (l ++ (wd.data.toList ++ Tx.sp (ns.take k)) ++ [32]) w w2) := Lib.hid ⟨h2.out, hr.out.r.kept k2.out hg.out, hr.out.b.trans b2⟩
      clear h2 b2 k2 hr hc
      go_wp2_with fail
      refine (itoa_any z hx.out w2 B (tab_on hT hP2.out.b)).mono ?_
      rintro e w3 ⟨rfl, b3⟩
      have hP3 := Lib.hid (hP2.out.below b3)
      clear hP2 b3
      go_wp2_with fail
      refine (writeString_any B b _ _ w3 (Lib.hid hP3.out.d) (Lib.hid (by have h1 := hll.out; have h2 := hil.out; simp only [List.length_append, List.length_cons, List.length_nil] at h1 ⊢; refine ⟨by omega, ?_⟩; show (Lib.itoa z).toArray.size ≤ _; simp; omega))).mono ?_
      rintro e w4 ⟨rfl, h4, b4, k4⟩
      have hP4 : Hid (PLs B b g ns (l ++ (wd.data.toList ++ Tx.sp (ns.take (k + 1)))) w w4) := Lib.hid ⟨by
        have e := h4.out
        rw [hst.out]
        simpa using e, hP3.out.r.kept k4.out hg.out, hP3.out.b.trans b4⟩
      clear h4 b4 k4 hP3
      go_wp2
      go_roundw
      case rel => exact ⟨k + 1, by omega, by go_num, hP4⟩
      case measure => first | (simp [RowKit.intOf]; done) | (simp [RowKit.intOf]; omega) | omega
    · obtain rfl : k = m := by omega
      have hi5 : ¬ (k : Int) < (k : Int) := by omega
      have e : ns.take k = ns := List.take_of_length_le (by have := hm.out; omega)
      rw [e] at hr
      clear e
      have hsl := Tx.sp_len ns hn.out
      have hll : Hid ((l ++ (wd.data.toList ++ Tx.sp ns)).length ≤ 1000000000) := Lib.hid (by
        have h1 := hl.out
        have h2 := hwd.out
        have h3 := hm.out
        simp only [List.length_append]
        omega)
      clear hsl
      go_wp2_with fail
      refine (writeByte_any B b _ 10 10 (Lib.hid rfl) _ (Lib.hid hr.out.d) hll).mono ?_
      rintro e w2 ⟨rfl, h2, b2, k2⟩
      have hP2 : Hid (PLs B b g ns (l ++ (wd.data.toList ++ Tx.sp ns) ++ [10]) w w2) := Lib.hid ⟨h2.out, hr.out.r.kept k2.out hg.out, hr.out.b.trans b2⟩
      clear h2 b2 k2 hr
      go_wp2
      refine bodyPost_end (v := .tuple #[]) (by simp [results, Tryz.results26, go_sem]) rfl ?_
      exact ⟨rfl, hP2⟩
end Go.Proofs.YtemacokojdeimaaGreatDoor
