/- The law ExactBack: it returns true. -/
import Derived.Test.YtffabmojbelaaaaDoorLBack1
import Derived.Test.YtffabmojbelaaaaDoorLBack2
import Derived.Test.YtffabmojbelaaaaDoorLBack3
import Derived.Test.YtffabmojbelaaaaDoorLBack4
import Derived.Test.YtffabmojbelaaaaDoorNe
namespace Go.Proofs.YtffabmojbelaaaaDoor
open Go.RowKit Go.Shelf

theorem vars_parse (t : ByteArray) (ht : t.size ≤ 60) (w : World) (V : Vars w) (hT : Hid (Tab w.heap.size w)) : ∀ W : World, Below w.heap.size w W → Calls Tryd.prog 69 #[.string t] W fun e w' => e = .returned (numV (Rt.parseX t.data.toList)) ∧ Below W.heap.size W w' := fun W hb =>
  xparse_any t ht W (V.on hb) (Lib.hid (Lib.tabBelow_of_tabIs (hT.out.on hb).here))

theorem back_exp (a b : Int) (h : Rt.vldP a b) : Hid (∀ (W : World), Calls Tryd.prog 44 #[.agg #[.int .i64 a, .int .i64 b]] W fun e w' => ∃ sa2 cap2, e = .returned (.tuple #[.slice sa2 (Rt.cf a b).length cap2, .int .i64 0]) ∧ RowF w' sa2 cap2 (Rt.cf a b) ∧ Below W.heap.size W w') :=
  Lib.hid fun W => (expand_ok a b h W).mono fun e w' ⟨v, he, ho, hb⟩ => by
    obtain ⟨sa2, cap2, hv, hr⟩ := owns_rowF ho
    exact ⟨sa2, cap2, by rw [he, hv], hr, hb⟩

theorem back_fold (a b : Int) (h : Rt.vldP a b) : Hid (∀ (W : World) (sa2 : Option Addr) (cap2 : Nat), RowF W sa2 cap2 (Rt.cf a b) → Calls Tryd.prog 45 #[.slice sa2 (Rt.cf a b).length cap2] W fun e w' => e = .returned (.tuple #[.agg #[.int .i64 a, .int .i64 b], .int .i64 0]) ∧ Below W.heap.size W w') :=
  Lib.hid fun W sa2 cap2 hr => by
    have hl := Rt.cf_len (n := a) (d := b) (by have := h.1; omega) h.2.1
    have hf := xfold_any (Rt.cf a b) sa2 cap2 (by omega) hr.1 hr.2.1 W hr.2.2
    rw [Rt.fold_cf h] at hf
    exact hf

theorem pr_size (a b : Int) (h : Rt.vldP a b) : (⟨(Rt.pr a b).toArray⟩ : ByteArray).size ≤ 60 := by
  have ⟨x1, x2, x3, x4, _⟩ := h
  have h1 := Lib.itoa_length_le a (by omega) (by omega)
  have h2 := Lib.itoa_length_le b (by omega) (by omega)
  show (Rt.pr a b).toArray.size ≤ 60
  unfold Rt.pr
  split <;> simp <;> omega

theorem back_parse (a b : Int) (h : Rt.vldP a b) (w : World) (V : Vars w) (hT : Hid (Tab w.heap.size w)) : Hid (∀ (W : World), Below w.heap.size w W → Calls Tryd.prog 69 #[.string ⟨(Rt.pr a b).toArray⟩] W fun e w' => e = .returned (.tuple #[.agg #[.int .i64 a, .int .i64 b], .int .i64 0]) ∧ Below W.heap.size W w') :=
  Lib.hid (by
    have hp := vars_parse ⟨(Rt.pr a b).toArray⟩ (pr_size a b h) w V hT
    rw [show (⟨(Rt.pr a b).toArray⟩ : ByteArray).data.toList = Rt.pr a b from rfl, Rt.parseX_pr h] at hp
    exact hp)

theorem back_join0 (a b : Int) (t : ByteArray) (ht : ¬ (60 : Int) < (t.size : Int)) (sa : Option Addr) (m cap : Nat) (hm : ¬ (60 : Int) < (m : Int)) (fn fd ek : Int) (hek : ¬ ek = 0) (w : World) (HF : Hid (∀ (W : World), Below w.heap.size w W → Calls Tryd.prog 45 #[.slice sa m cap] W fun e w' => e = .returned (.tuple #[.agg #[.int .i64 fn, .int .i64 fd], .int .i64 ek]) ∧ Below W.heap.size W w')) (hT : Hid (Tab w.heap.size w)) (V : Vars w) :
    Calls Tryd.prog 13 #[.agg #[.int .i64 a, .int .i64 b], .slice sa m cap, .string t] w fun e w' => e = .returned (.bool true) ∧ Below w.heap.size w w' := by
  have HQ := vars_parse t (by omega) w V hT
  rcases Rt.parseX_is t.data.toList with ⟨qn, qd, hvq, hpr, hq⟩ | ⟨hq, _⟩ <;> rw [hq] at HQ
  · have HR := print_on qn qd hvq w hT
    rw [str_of hpr] at HR
    by_cases hv : Rt.vldP a b
    · exact back_101 a b t ht sa m cap hm fn fd ek hek (Rt.cf a b) (by have := Rt.cf_len (n := a) (d := b) (by have := hv.1; omega) hv.2.1; omega) _ (back_exp a b hv) (back_fold a b hv) (Lib.hid fun W => rvalid_yes a b W hv) qn qd w (print_on a b hv w hT) (back_parse a b hv w V hT) HF (Lib.hid HQ) HR hT
    · exact back_001 a b t ht sa m cap hm fn fd ek hek (Lib.hid fun W => rvalid_not a b W hv) qn qd w HF (Lib.hid HQ) HR hT
  · by_cases hv : Rt.vldP a b
    · exact back_100 a b t ht sa m cap hm fn fd ek hek (Rt.cf a b) (by have := Rt.cf_len (n := a) (d := b) (by have := hv.1; omega) hv.2.1; omega) _ (back_exp a b hv) (back_fold a b hv) (Lib.hid fun W => rvalid_yes a b W hv) w (print_on a b hv w hT) (back_parse a b hv w V hT) HF (Lib.hid HQ) hT
    · exact back_000 a b t ht sa m cap hm fn fd ek hek (Lib.hid fun W => rvalid_not a b W hv) w HF (Lib.hid HQ) hT

theorem back_join1 (a b : Int) (t : ByteArray) (ht : ¬ (60 : Int) < (t.size : Int)) (sa : Option Addr) (cap : Nat) (fn fd : Int) (l : List Int) (HD : Hid (∀ (W : World), Calls Tryd.prog 44 #[.agg #[.int .i64 fn, .int .i64 fd]] W fun e w' => ∃ v, e = .returned (.tuple #[v, .int .i64 0]) ∧ Reads w' v l ∧ Below W.heap.size W w')) (w : World) (HF : Hid (∀ (W : World), Below w.heap.size w W → Calls Tryd.prog 45 #[.slice sa 1 cap] W fun e w' => e = .returned (.tuple #[.agg #[.int .i64 fn, .int .i64 fd], .int .i64 0]) ∧ Below W.heap.size W w')) (hrl : Reads w (.slice sa 1 cap) l) (hT : Hid (Tab w.heap.size w)) (V : Vars w) :
    Calls Tryd.prog 13 #[.agg #[.int .i64 a, .int .i64 b], .slice sa 1 cap, .string t] w fun e w' => e = .returned (.bool true) ∧ Below w.heap.size w w' := by
  have HQ := vars_parse t (by omega) w V hT
  rcases Rt.parseX_is t.data.toList with ⟨qn, qd, hvq, hpr, hq⟩ | ⟨hq, _⟩ <;> rw [hq] at HQ
  · have HR := print_on qn qd hvq w hT
    rw [str_of hpr] at HR
    by_cases hv : Rt.vldP a b
    · exact back_111 a b t ht sa cap fn fd l (Rt.cf a b) (by have := Rt.cf_len (n := a) (d := b) (by have := hv.1; omega) hv.2.1; omega) _ (back_exp a b hv) (back_fold a b hv) (Lib.hid fun W => rvalid_yes a b W hv) HD qn qd w (print_on a b hv w hT) (back_parse a b hv w V hT) HF hrl (Lib.hid HQ) HR hT
    · exact back_011 a b t ht sa cap fn fd l (Lib.hid fun W => rvalid_not a b W hv) HD qn qd w HF hrl (Lib.hid HQ) HR hT
  · by_cases hv : Rt.vldP a b
    · exact back_110 a b t ht sa cap fn fd l (Rt.cf a b) (by have := Rt.cf_len (n := a) (d := b) (by have := hv.1; omega) hv.2.1; omega) _ (back_exp a b hv) (back_fold a b hv) (Lib.hid fun W => rvalid_yes a b W hv) HD w (print_on a b hv w hT) (back_parse a b hv w V hT) HF hrl (Lib.hid HQ) hT
    · exact back_010 a b t ht sa cap fn fd l (Lib.hid fun W => rvalid_not a b W hv) HD w HF hrl (Lib.hid HQ) hT

theorem back_join2 (a b : Int) (t : ByteArray) (ht : ¬ (60 : Int) < (t.size : Int)) (x : Addr) (m cap : Nat) (hm : ¬ (60 : Int) < (m : Int)) (hm1 : ((m : Int) == 1) = false) (hm2 : 2 ≤ (m : Int)) (fn fd z : Int) (hz : 2 ≤ z) (l : List Int) (HD : Hid (∀ (W : World), Calls Tryd.prog 44 #[.agg #[.int .i64 fn, .int .i64 fd]] W fun e w' => ∃ v, e = .returned (.tuple #[v, .int .i64 0]) ∧ Reads w' v l ∧ Below W.heap.size W w')) (w : World) (HF : Hid (∀ (W : World), Below w.heap.size w W → Calls Tryd.prog 45 #[.slice (some x) m cap] W fun e w' => e = .returned (.tuple #[.agg #[.int .i64 fn, .int .i64 fd], .int .i64 0]) ∧ Below W.heap.size W w')) (hrl : Reads w (.slice (some x) m cap) l) (hcl : Hid (∀ W : World, Below w.heap.size w W → W.cell? (x.add (m - 1)) = some (.int .i64 z))) (hT : Hid (Tab w.heap.size w)) (V : Vars w) :
    Calls Tryd.prog 13 #[.agg #[.int .i64 a, .int .i64 b], .slice (some x) m cap, .string t] w fun e w' => e = .returned (.bool true) ∧ Below w.heap.size w w' := by
  have HQ := vars_parse t (by omega) w V hT
  rcases Rt.parseX_is t.data.toList with ⟨qn, qd, hvq, hpr, hq⟩ | ⟨hq, _⟩ <;> rw [hq] at HQ
  · have HR := print_on qn qd hvq w hT
    rw [str_of hpr] at HR
    by_cases hv : Rt.vldP a b
    · exact back_121 a b t ht x m cap hm hm1 hm2 fn fd z hz l (Rt.cf a b) (by have := Rt.cf_len (n := a) (d := b) (by have := hv.1; omega) hv.2.1; omega) _ (back_exp a b hv) (back_fold a b hv) (Lib.hid fun W => rvalid_yes a b W hv) HD qn qd w (print_on a b hv w hT) (back_parse a b hv w V hT) HF hrl hcl (Lib.hid HQ) HR hT
    · exact back_021 a b t ht x m cap hm hm1 hm2 fn fd z hz l (Lib.hid fun W => rvalid_not a b W hv) HD qn qd w HF hrl hcl (Lib.hid HQ) HR hT
  · by_cases hv : Rt.vldP a b
    · exact back_120 a b t ht x m cap hm hm1 hm2 fn fd z hz l (Rt.cf a b) (by have := Rt.cf_len (n := a) (d := b) (by have := hv.1; omega) hv.2.1; omega) _ (back_exp a b hv) (back_fold a b hv) (Lib.hid fun W => rvalid_yes a b W hv) HD w (print_on a b hv w hT) (back_parse a b hv w V hT) HF hrl hcl (Lib.hid HQ) hT
    · exact back_020 a b t ht x m cap hm hm1 hm2 fn fd z hz l (Lib.hid fun W => rvalid_not a b W hv) HD w HF hrl hcl (Lib.hid HQ) hT

theorem back_join3 (a b : Int) (t : ByteArray) (ht : ¬ (60 : Int) < (t.size : Int)) (x : Addr) (m cap : Nat) (hm : ¬ (60 : Int) < (m : Int)) (hm1 : ((m : Int) == 1) = false) (hm2 : 2 ≤ (m : Int)) (fn fd z : Int) (hz : z < 2) (w : World) (HF : Hid (∀ (W : World), Below w.heap.size w W → Calls Tryd.prog 45 #[.slice (some x) m cap] W fun e w' => e = .returned (.tuple #[.agg #[.int .i64 fn, .int .i64 fd], .int .i64 0]) ∧ Below W.heap.size W w')) (hcl : Hid (∀ W : World, Below w.heap.size w W → W.cell? (x.add (m - 1)) = some (.int .i64 z))) (hT : Hid (Tab w.heap.size w)) (V : Vars w) :
    Calls Tryd.prog 13 #[.agg #[.int .i64 a, .int .i64 b], .slice (some x) m cap, .string t] w fun e w' => e = .returned (.bool true) ∧ Below w.heap.size w w' := by
  have HQ := vars_parse t (by omega) w V hT
  rcases Rt.parseX_is t.data.toList with ⟨qn, qd, hvq, hpr, hq⟩ | ⟨hq, _⟩ <;> rw [hq] at HQ
  · have HR := print_on qn qd hvq w hT
    rw [str_of hpr] at HR
    by_cases hv : Rt.vldP a b
    · exact back_131 a b t ht x m cap hm hm1 hm2 fn fd z hz (Rt.cf a b) (by have := Rt.cf_len (n := a) (d := b) (by have := hv.1; omega) hv.2.1; omega) _ (back_exp a b hv) (back_fold a b hv) (Lib.hid fun W => rvalid_yes a b W hv) qn qd w (print_on a b hv w hT) (back_parse a b hv w V hT) HF hcl (Lib.hid HQ) HR hT
    · exact back_031 a b t ht x m cap hm hm1 hm2 fn fd z hz (Lib.hid fun W => rvalid_not a b W hv) qn qd w HF hcl (Lib.hid HQ) HR hT
  · by_cases hv : Rt.vldP a b
    · exact back_130 a b t ht x m cap hm hm1 hm2 fn fd z hz (Rt.cf a b) (by have := Rt.cf_len (n := a) (d := b) (by have := hv.1; omega) hv.2.1; omega) _ (back_exp a b hv) (back_fold a b hv) (Lib.hid fun W => rvalid_yes a b W hv) w (print_on a b hv w hT) (back_parse a b hv w V hT) HF hcl (Lib.hid HQ) hT
    · exact back_030 a b t ht x m cap hm hm1 hm2 fn fd z hz (Lib.hid fun W => rvalid_not a b W hv) w HF hcl (Lib.hid HQ) hT

theorem fold_vld {l : List Int} (he : (Rt.foldS l).e = 0) : Rt.vldP (Rt.foldS l).n (Rt.foldS l).d ∧ l ≠ [] := by
  unfold Rt.foldS at he ⊢
  split at he
  · simp at he
  · split at he
    · simp at he
    · split at he
      · simp at he
      · rename_i h1 h2 h3
        rw [if_neg h1, if_neg h2, if_neg h3]
        have hd : (Rt.K l).2 ≠ 0 := fun h0 => by rw [h0] at he; simp [Rt.mk] at he
        exact ⟨(mk_cross hd he).1, h2⟩

theorem exactBack_true (a b : Int) (sa : Option Addr) (m cap : Nat) (zs : List Int) (t : ByteArray) (_ : I64 a) (_ : I64 b) (_ : t.size ≤ maxLen) (w : World) (hz : IsRow w sa m cap zs) (hT : Tab w.heap.size w) (V : Vars w) :
    Calls Tryd.prog 13 #[.agg #[.int .i64 a, .int .i64 b], .slice sa m cap, .string t] w fun e w' => e = .returned (.bool true) ∧ Below w.heap.size w w' := by
  by_cases hm : (60 : Int) < (m : Int)
  · exact back_long a b sa m cap t hm w (Lib.hid hT)
  by_cases ht : (60 : Int) < (t.size : Int)
  · exact back_text a b sa m cap t hm ht w (Lib.hid hT)
  obtain ⟨l, hl, h1, h2, h3⟩ := row_list hz
  have hT2 := Lib.hid hT
  have HF : ∀ W : World, Below w.heap.size w W → Calls Tryd.prog 45 #[.slice sa m cap] W fun e w' => e = .returned (numV (Rt.foldS l)) ∧ Below W.heap.size W w' := fun W hb => by
    have h := xfold_any l sa cap (by omega) (by omega) h2 W (fun k hk => by
      obtain ⟨x, hx, hcx⟩ := h3 k hk
      exact ⟨x, hx, (hb.cell (block_lt_of_cell hcx)).trans hcx⟩)
    rw [hl] at h
    exact h
  by_cases he : (Rt.foldS l).e = 0
  · obtain ⟨hvr, hne⟩ := fold_vld he
    have HF2 : ∀ W : World, Below w.heap.size w W → Calls Tryd.prog 45 #[.slice sa m cap] W fun e w' => e = .returned (.tuple #[.agg #[.int .i64 (Rt.foldS l).n, .int .i64 (Rt.foldS l).d], .int .i64 0]) ∧ Below W.heap.size W w' := fun W hb => by
      have h := HF W hb
      unfold numV at h
      rw [he] at h
      exact h
    have hrl : Reads w (.slice sa m cap) l := ⟨sa, cap, by rw [hl], by unfold maxLen; omega, h3⟩
    have hpos : 1 ≤ m := by cases l with | nil => exact (hne rfl).elim | cons _ _ => simp at hl; omega
    have HD : (l.length = 1 ∨ ∃ h : l ≠ [], 2 ≤ l.getLast h) → Hid (∀ (W : World), Calls Tryd.prog 44 #[.agg #[.int .i64 (Rt.foldS l).n, .int .i64 (Rt.foldS l).d]] W fun e w' => ∃ v, e = .returned (.tuple #[v, .int .i64 0]) ∧ Reads w' v l ∧ Below W.heap.size W w') := fun hh =>
      Lib.hid fun W => (expand_ok _ _ hvr W).mono fun e w' ⟨v, he2, ho, hb⟩ => by
        have hc := Rt.cf_fold rfl he hh
        rw [hc] at ho
        refine ⟨v, he2, owns_reads ho ?_, hb⟩
        rw [← hc]
        exact Rt.cf_len (by have := hvr.1; omega) hvr.2.1
    by_cases h1m : m = 1
    · subst h1m
      exact back_join1 a b t ht sa cap _ _ l (HD (.inl hl)) w (Lib.hid HF2) hrl hT2 V
    · obtain ⟨k, rfl⟩ : ∃ k, m = k + 1 := ⟨m - 1, by omega⟩
      obtain ⟨x, rfl, hcx⟩ := h3 k (by omega)
      have hcl : Hid (∀ W : World, Below w.heap.size w W → W.cell? (x.add (k + 1 - 1)) = some (.int .i64 (l.getD k 0))) := Lib.hid fun W hb => (hb.cell (block_lt_of_cell hcx)).trans hcx
      have hlast : l.getD k 0 = l.getLast hne := by
        rw [List.getLast_eq_getElem, List.getD, List.getElem?_eq_getElem (by omega)]
        simp only [Option.getD_some]
        congr 1
        omega
      by_cases hz2 : 2 ≤ l.getD k 0
      · exact back_join2 a b t ht x (k + 1) cap hm (by rw [beq_eq_false_iff_ne]; omega) (by omega) _ _ _ hz2 l (HD (.inr ⟨hne, by rw [← hlast]; exact hz2⟩)) w (Lib.hid HF2) hrl hcl hT2 V
      · exact back_join3 a b t ht x (k + 1) cap hm (by rw [beq_eq_false_iff_ne]; omega) (by omega) _ _ _ (by omega) w (Lib.hid HF2) hcl hT2 V
  · exact back_join0 a b t ht sa m cap hm _ _ _ he w (Lib.hid HF) hT2 V
end Go.Proofs.YtffabmojbelaaaaDoor
