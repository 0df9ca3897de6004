/- The law ExactRanges: it returns true. -/
import Derived.Test.YtffabmojbelaaaaDoorLRanges1
import Derived.Test.YtffabmojbelaaaaDoorLRanges2
import Derived.Test.YtffabmojbelaaaaDoorLRanges3
import Derived.Test.YtffabmojbelaaaaDoorLRanges4
import Derived.Test.YtffabmojbelaaaaDoorCr
import Derived.Test.YtffabmojbelaaaaDoorT
import Derived.Test.YtffabmojbelaaaaDoorU
namespace Go.Proofs.YtffabmojbelaaaaDoor
open Go.RowKit Go.Shelf

theorem sum_two {a b c d p q r s : Int} (hx : vrP a b c d) (hy : vrP p q r s) : ∃ s1 s2 s3 s4 e : Int, Hid (∀ W : World, Calls Tryd.prog 59 #[.agg #[.int .i64 a, .int .i64 b, .int .i64 c, .int .i64 d], .agg #[.int .i64 p, .int .i64 q, .int .i64 r, .int .i64 s]] W fun e' w' => e' = .returned (.tuple #[.agg #[.int .i64 s1, .int .i64 s2, .int .i64 s3, .int .i64 s4], .int .i64 e]) ∧ Below W.heap.size W w') ∧ Hid (∀ W : World, Calls Tryd.prog 65 #[.agg #[.int .i64 a, .int .i64 b, .int .i64 c, .int .i64 d], .agg #[.int .i64 p, .int .i64 q, .int .i64 r, .int .i64 s]] W fun e' w' => e' = .returned (.agg #[.int .i64 s1, .int .i64 s2, .int .i64 s3, .int .i64 s4, .int .i64 e]) ∧ Below W.heap.size W w') := by
  obtain ⟨L, H, hL, hH, hle, rfl, rfl, rfl, rfl⟩ := vr_rat hx
  obtain ⟨L', H', hL', hH', hle', rfl, rfl, rfl, rfl⟩ := vr_rat hy
  obtain ⟨_, _, _, _, _, h1, h2⟩ := sum_pair hL hH hle hL' hH' hle'
  exact ⟨_, _, _, _, _, Lib.hid h1, Lib.hid h2⟩

theorem meet_two {a b c d p q r s : Int} (hx : vrP a b c d) (hy : vrP p q r s) : ∃ s1 s2 s3 s4 e : Int, Hid (∀ W : World, Calls Tryd.prog 57 #[.agg #[.int .i64 a, .int .i64 b, .int .i64 c, .int .i64 d], .agg #[.int .i64 p, .int .i64 q, .int .i64 r, .int .i64 s]] W fun e' w' => e' = .returned (.tuple #[.agg #[.int .i64 s1, .int .i64 s2, .int .i64 s3, .int .i64 s4], .int .i64 e]) ∧ Below W.heap.size W w') ∧ Hid (∀ W : World, Calls Tryd.prog 63 #[.agg #[.int .i64 a, .int .i64 b, .int .i64 c, .int .i64 d], .agg #[.int .i64 p, .int .i64 q, .int .i64 r, .int .i64 s]] W fun e' w' => e' = .returned (.agg #[.int .i64 s1, .int .i64 s2, .int .i64 s3, .int .i64 s4, .int .i64 e]) ∧ Below W.heap.size W w') := by
  obtain ⟨L, H, hL, hH, hle, rfl, rfl, rfl, rfl⟩ := vr_rat hx
  obtain ⟨L', H', hL', hH', hle', rfl, rfl, rfl, rfl⟩ := vr_rat hy
  obtain ⟨_, _, _, _, _, h1, h2⟩ := meet_pair hL hH hle hL' hH' hle'
  exact ⟨_, _, _, _, _, Lib.hid h1, Lib.hid h2⟩

theorem hull_two {a b c d p q r s : Int} (hx : vrP a b c d) (hy : vrP p q r s) : ∃ s1 s2 s3 s4 : Int, Hid (∀ W : World, Calls Tryd.prog 58 #[.agg #[.int .i64 a, .int .i64 b, .int .i64 c, .int .i64 d], .agg #[.int .i64 p, .int .i64 q, .int .i64 r, .int .i64 s]] W fun e' w' => e' = .returned (.tuple #[.agg #[.int .i64 s1, .int .i64 s2, .int .i64 s3, .int .i64 s4], .int .i64 0]) ∧ Below W.heap.size W w') ∧ Hid (∀ W : World, Calls Tryd.prog 64 #[.agg #[.int .i64 a, .int .i64 b, .int .i64 c, .int .i64 d], .agg #[.int .i64 p, .int .i64 q, .int .i64 r, .int .i64 s]] W fun e' w' => e' = .returned (.agg #[.int .i64 s1, .int .i64 s2, .int .i64 s3, .int .i64 s4]) ∧ Below W.heap.size W w') := by
  obtain ⟨L, H, hL, hH, hle, rfl, rfl, rfl, rfl⟩ := vr_rat hx
  obtain ⟨L', H', hL', hH', hle', rfl, rfl, rfl, rfl⟩ := vr_rat hy
  obtain ⟨_, _, _, _, h1, h2⟩ := hull_pair hL hH hle hL' hH' hle'
  exact ⟨_, _, _, _, Lib.hid h1, Lib.hid h2⟩

theorem scl_two {a b c d i j : Int} (hx : vrP a b c d) (ha : Rt.vldP i j) : ∃ s1 s2 s3 s4 e : Int, Hid (∀ W : World, Calls Tryd.prog 60 #[.agg #[.int .i64 a, .int .i64 b, .int .i64 c, .int .i64 d], .agg #[.int .i64 i, .int .i64 j]] W fun e' w' => e' = .returned (.tuple #[.agg #[.int .i64 s1, .int .i64 s2, .int .i64 s3, .int .i64 s4], .int .i64 e]) ∧ Below W.heap.size W w') ∧ Hid (∀ W : World, Calls Tryd.prog 66 #[.agg #[.int .i64 a, .int .i64 b, .int .i64 c, .int .i64 d], .agg #[.int .i64 i, .int .i64 j]] W fun e' w' => e' = .returned (.agg #[.int .i64 s1, .int .i64 s2, .int .i64 s3, .int .i64 s4, .int .i64 e]) ∧ Below W.heap.size W w') := by
  obtain ⟨L, H, hL, hH, hle, rfl, rfl, rfl, rfl⟩ := vr_rat hx
  obtain ⟨B, hB, rfl, rfl⟩ := Rt.vld_rat ha
  obtain ⟨_, _, _, _, _, h1, h2⟩ := scl_pair hL hH hle hB
  exact ⟨_, _, _, _, _, Lib.hid h1, Lib.hid h2⟩

theorem whole_two {a b c d : Int} (hx : vrP a b c d) : (∃ lo hi : Int, Hid (∀ W : World, Calls Tryd.prog 61 #[.agg #[.int .i64 a, .int .i64 b, .int .i64 c, .int .i64 d]] W fun e' w' => e' = .returned (.tuple #[.agg #[.int .i64 lo, .int .i64 hi], .int .i64 0]) ∧ Below W.heap.size W w') ∧ Hid (∀ W : World, Calls Tryd.prog 67 #[.agg #[.int .i64 a, .int .i64 b, .int .i64 c, .int .i64 d]] W fun e' w' => e' = .returned (.tuple #[.agg #[.int .i64 lo, .int .i64 hi], .bool true]) ∧ Below W.heap.size W w')) ∨ (∃ lo hi : Int, Hid (∀ W : World, Calls Tryd.prog 61 #[.agg #[.int .i64 a, .int .i64 b, .int .i64 c, .int .i64 d]] W fun e' w' => e' = .returned (.tuple #[.agg #[.int .i64 0, .int .i64 0], .int .i64 5]) ∧ Below W.heap.size W w') ∧ Hid (∀ W : World, Calls Tryd.prog 67 #[.agg #[.int .i64 a, .int .i64 b, .int .i64 c, .int .i64 d]] W fun e' w' => e' = .returned (.tuple #[.agg #[.int .i64 lo, .int .i64 hi], .bool false]) ∧ Below W.heap.size W w')) := by
  have ⟨⟨x1, x2, x3, x4, _⟩, ⟨y1, y2, y3, y4, _⟩, _⟩ := hx
  have H1 := Lib.hid fun W => rceil_any a b (by omega) (by omega) x1 W
  have H2 := Lib.hid fun W => rfloor_any c d (by omega) (by omega) y1 W
  by_cases hl : Rt.cl a b ≤ c / d
  · exact .inl ⟨_, _, Lib.hid fun W => whole_ok a b c d _ _ W hx (Lib.hid rfl) (Lib.hid rfl) hl, Lib.hid fun W => rwhole_yes a b c d _ _ hl W H1 H2⟩
  · exact .inr ⟨_, _, Lib.hid fun W => whole_none a b c d _ _ W hx (Lib.hid rfl) (Lib.hid rfl) (by omega), Lib.hid fun W => rwhole_no a b c d _ _ (by omega) W H1 H2⟩

theorem vr_two (a b c d : Int) : ∃ t : Bool, (vrP a b c d ↔ t = true) ∧ Hid (∀ W : World, Calls Tryd.prog 50 #[.agg #[.int .i64 a, .int .i64 b, .int .i64 c, .int .i64 d]] W fun e' w' => e' = .returned (.bool t) ∧ Below W.heap.size W w') := by
  by_cases h : vrP a b c d
  · exact ⟨true, by simp [h], Lib.hid fun W => rvrange_yes a b c d W h⟩
  · exact ⟨false, by simp [h], Lib.hid fun W => rvrange_not a b c d W h⟩

theorem exactRanges_true (a b c d p q r s i j : Int) (_ : I64 a) (_ : I64 b) (_ : I64 c) (_ : I64 d) (_ : I64 p) (_ : I64 q) (_ : I64 r) (_ : I64 s) (_ : I64 i) (_ : I64 j) (w : World) (hT : Tab w.heap.size w) :
    Calls Tryd.prog 9 #[.agg #[.int .i64 a, .int .i64 b, .int .i64 c, .int .i64 d], .agg #[.int .i64 p, .int .i64 q, .int .i64 r, .int .i64 s], .agg #[.int .i64 i, .int .i64 j]] w fun e w' => e = .returned (.bool true) ∧ Below w.heap.size w w' := by
  replace hT := Lib.hid hT
  by_cases hx : vrP a b c d
  · have KX := Lib.hid fun W => rvrange_yes a b c d W hx
    have EX := Lib.hid fun W => vrange_yes a b c d W hx
    by_cases hy : vrP p q r s
    · have KY := Lib.hid fun W => rvrange_yes p q r s W hy
      obtain ⟨_, _, _, _, _, EM, KM⟩ := meet_two hx hy
      obtain ⟨_, _, _, _, EU, KU⟩ := hull_two hx hy
      obtain ⟨_, _, _, _, _, ES, KS⟩ := sum_two hx hy
      by_cases ha : Rt.vldP i j
      · have KA := Lib.hid fun W => rvalid_yes i j W ha
        obtain ⟨_, h1, h2⟩ := has_pair hx ha
        have EH := Lib.hid h1
        have KH := Lib.hid h2
        obtain ⟨_, _, _, _, _, ET, KT⟩ := scl_two hx ha
        rcases whole_two hx with ⟨lo, hi, EV, KV⟩ | ⟨lo, hi, EV, KV⟩
        · exact ranges_TTTT _ _ _ _ _ _ _ _ _ _ _ _ _ _ _ _ _ _ _ _ _ _ _ _ _ _ _ _ _ _ _ _ KX KY KA EX EH KH EM EU ES ET EV KM KU KS KT KV w hT
        · exact ranges_TTTF _ _ _ _ _ _ _ _ _ _ _ _ _ _ _ _ _ _ _ _ _ _ _ _ _ _ _ _ _ _ _ _ KX KY KA EX EH KH EM EU ES ET EV KM KU KS KT KV w hT
      · have KA := Lib.hid fun W => rvalid_not i j W ha
        have EH := Lib.hid fun W => has_no a b c d i j W (fun h => ha h.2)
        have ET := Lib.hid fun W => scl_bad a b c d i j W (fun h => ha h.2)
        rcases whole_two hx with ⟨lo, hi, EV, KV⟩ | ⟨lo, hi, EV, KV⟩
        · exact ranges_TTFT _ _ _ _ _ _ _ _ _ _ _ _ _ _ _ _ _ _ _ _ _ _ _ _ _ _ KX KY KA EX EH EM EU ES ET EV KM KU KS KV w hT
        · exact ranges_TTFF _ _ _ _ _ _ _ _ _ _ _ _ _ _ _ _ _ _ _ _ _ _ _ _ _ _ KX KY KA EX EH EM EU ES ET EV KM KU KS KV w hT
    · have KY := Lib.hid fun W => rvrange_not p q r s W hy
      have EM := Lib.hid fun W => meet_bad a b c d p q r s W (fun h => hy h.2)
      have EU := Lib.hid fun W => hull_bad a b c d p q r s W (fun h => hy h.2)
      have ES := Lib.hid fun W => sum_bad a b c d p q r s W (fun h => hy h.2)
      by_cases ha : Rt.vldP i j
      · have KA := Lib.hid fun W => rvalid_yes i j W ha
        obtain ⟨_, h1, h2⟩ := has_pair hx ha
        have EH := Lib.hid h1
        have KH := Lib.hid h2
        obtain ⟨_, _, _, _, _, ET, KT⟩ := scl_two hx ha
        rcases whole_two hx with ⟨lo, hi, EV, KV⟩ | ⟨lo, hi, EV, KV⟩
        · exact ranges_TFTT _ _ _ _ _ _ _ _ _ _ _ _ _ _ _ _ _ _ KX KY KA EX EH KH EM EU ES ET EV KT KV w hT
        · exact ranges_TFTF _ _ _ _ _ _ _ _ _ _ _ _ _ _ _ _ _ _ KX KY KA EX EH KH EM EU ES ET EV KT KV w hT
      · have KA := Lib.hid fun W => rvalid_not i j W ha
        have EH := Lib.hid fun W => has_no a b c d i j W (fun h => ha h.2)
        have ET := Lib.hid fun W => scl_bad a b c d i j W (fun h => ha h.2)
        rcases whole_two hx with ⟨lo, hi, EV, KV⟩ | ⟨lo, hi, EV, KV⟩
        · exact ranges_TFFT _ _ _ _ _ _ _ _ _ _ _ _ KX KY KA EX EH EM EU ES ET EV KV w hT
        · exact ranges_TFFF _ _ _ _ _ _ _ _ _ _ _ _ KX KY KA EX EH EM EU ES ET EV KV w hT
  · obtain ⟨t2, _, KY⟩ := vr_two p q r s
    obtain ⟨t3, _, _, k3⟩ := valid_both i j
    have KA := Lib.hid k3
    exact ranges_FqqF a b c d p q r s i j t2 t3 (Lib.hid fun W => rvrange_not a b c d W hx) KY KA (Lib.hid fun W => vrange_not a b c d W hx) (Lib.hid fun W => has_no a b c d i j W (fun h => hx h.1)) (Lib.hid fun W => meet_bad a b c d p q r s W (fun h => hx h.1)) (Lib.hid fun W => hull_bad a b c d p q r s W (fun h => hx h.1)) (Lib.hid fun W => sum_bad a b c d p q r s W (fun h => hx h.1)) (Lib.hid fun W => scl_bad a b c d i j W (fun h => hx h.1)) (Lib.hid fun W => whole_bad a b c d W hx) w hT
end Go.Proofs.YtffabmojbelaaaaDoor
