/- The law ExactSums: it returns true. -/
import Derived.Test.YtpbomeoonknifaaDoorLSums1
import Derived.Test.YtpbomeoonknifaaDoorLSums2
import Derived.Test.YtpbomeoonknifaaDoorLSums3
import Derived.Test.YtpbomeoonknifaaDoorF
import Derived.Test.YtpbomeoonknifaaDoorG
import Derived.Test.YtpbomeoonknifaaDoorQ
namespace Go.Proofs.YtpbomeoonknifaaDoor
open Go.RowKit Go.Shelf

theorem exactSums_true (a b c d : Int) (_ : I64 a) (_ : I64 b) (_ : I64 c) (_ : I64 d) (w : World) (hT : Tab w.heap.size w) :
    Calls Tryd.prog 4 #[.agg #[.int .i64 a, .int .i64 b], .agg #[.int .i64 c, .int .i64 d]] w fun e w' => e = .returned (.bool true) ∧ Below w.heap.size w w' := by
  by_cases h1 : Rt.vldP a b
  · have ⟨x1, x2, x3, x4, _⟩ := h1
    have KV := Lib.hid fun W => rvalid_yes a b W h1
    by_cases h2 : Rt.vldP c d
    · have ⟨y1, y2, y3, y4, _⟩ := h2
      have KW := wrong_any a b c d true true KV (Lib.hid fun W => rvalid_yes c d W h2)
      by_cases hc : c = 0
      · subst hc
        exact sums_ok a b 0 d _ _ _ _ ⟨0, 0, 5⟩ _ (Lib.hid fun W => cmp_ok a b 0 d h1 h2 W) (Lib.hid fun W => neg_ok a b h1 W) (Lib.hid fun W => add_ok a b 0 d h1 h2 W) (Lib.hid fun W => sub_ok a b 0 d h1 h2 W) (Lib.hid fun W => mul_ok a b 0 d h1 h2 W) (Lib.hid fun W => div_zero a b d h1 h2 W) (Lib.hid fun W => med_ok a b 0 d h1 h2 W)
          KV (Lib.hid fun W => rneg_any a b (by omega) (by omega) W) (Lib.hid KW) (Lib.hid fun W => rcmp a b 0 d ⟨x3, x4⟩ ⟨x1, x2⟩ ⟨y3, y4⟩ ⟨y1, y2⟩ W)
          (Lib.hid fun W => radd a b 0 d ⟨x3, x4⟩ ⟨x1, x2⟩ ⟨y3, y4⟩ ⟨y1, y2⟩ W) (Lib.hid fun W => rsub a b 0 d ⟨x3, x4⟩ ⟨x1, x2⟩ ⟨y3, y4⟩ ⟨y1, y2⟩ W) (Lib.hid fun W => rmul a b 0 d ⟨x3, x4⟩ ⟨x1, x2⟩ ⟨y3, y4⟩ ⟨y1, y2⟩ W) (Lib.hid fun W => rdiv_zero a b d W) (Lib.hid fun W => rmed a b 0 d ⟨x3, x4⟩ ⟨x1, x2⟩ ⟨y3, y4⟩ ⟨y1, y2⟩ W) w (Lib.hid hT)
      · have hz : (c == 0) = false := by rw [beq_eq_false_iff_ne]; exact hc
        exact sums_ok a b c d _ _ _ _ _ _ (Lib.hid fun W => cmp_ok a b c d h1 h2 W) (Lib.hid fun W => neg_ok a b h1 W) (Lib.hid fun W => add_ok a b c d h1 h2 W) (Lib.hid fun W => sub_ok a b c d h1 h2 W) (Lib.hid fun W => mul_ok a b c d h1 h2 W) (Lib.hid fun W => div_ok a b c d h1 h2 hz W) (Lib.hid fun W => med_ok a b c d h1 h2 W)
          KV (Lib.hid fun W => rneg_any a b (by omega) (by omega) W) (Lib.hid KW) (Lib.hid fun W => rcmp a b c d ⟨x3, x4⟩ ⟨x1, x2⟩ ⟨y3, y4⟩ ⟨y1, y2⟩ W)
          (Lib.hid fun W => radd a b c d ⟨x3, x4⟩ ⟨x1, x2⟩ ⟨y3, y4⟩ ⟨y1, y2⟩ W) (Lib.hid fun W => rsub a b c d ⟨x3, x4⟩ ⟨x1, x2⟩ ⟨y3, y4⟩ ⟨y1, y2⟩ W) (Lib.hid fun W => rmul a b c d ⟨x3, x4⟩ ⟨x1, x2⟩ ⟨y3, y4⟩ ⟨y1, y2⟩ W) (Lib.hid fun W => rdiv_ok a b c d ⟨x3, x4⟩ ⟨x1, x2⟩ ⟨y3, y4⟩ ⟨y1, y2⟩ hc W) (Lib.hid fun W => rmed a b c d ⟨x3, x4⟩ ⟨x1, x2⟩ ⟨y3, y4⟩ ⟨y1, y2⟩ W) w (Lib.hid hT)
    · have n : ¬ (Rt.vldP a b ∧ Rt.vldP c d) := fun h => h2 h.2
      have KW := wrong_any a b c d true false KV (Lib.hid fun W => rvalid_not c d W h2)
      exact sums_bad2 a b c d (Lib.hid fun W => cmp_bad a b c d n W) (Lib.hid fun W => neg_ok a b h1 W) (Lib.hid fun W => add_bad a b c d n W) (Lib.hid fun W => sub_bad a b c d n W) (Lib.hid fun W => mul_bad a b c d n W) (Lib.hid fun W => div_bad a b c d n W) (Lib.hid fun W => med_bad a b c d n W)
        KV (Lib.hid fun W => rneg_any a b (by omega) (by omega) W) (Lib.hid KW) w (Lib.hid hT)
  · have n : ¬ (Rt.vldP a b ∧ Rt.vldP c d) := fun h => h1 h.1
    have KV := Lib.hid fun W => rvalid_not a b W h1
    obtain ⟨t, _, _, h4⟩ := valid_both c d
    have KW := wrong_any a b c d false t KV (Lib.hid h4)
    exact sums_bad1 a b c d (Lib.hid fun W => cmp_bad a b c d n W) (Lib.hid fun W => neg_bad a b h1 W) (Lib.hid fun W => add_bad a b c d n W) (Lib.hid fun W => sub_bad a b c d n W) (Lib.hid fun W => mul_bad a b c d n W) (Lib.hid fun W => div_bad a b c d n W) (Lib.hid fun W => med_bad a b c d n W)
      KV (Lib.hid KW) w (Lib.hid hT)
end Go.Proofs.YtpbomeoonknifaaDoor
