/- Contracts of package exact's interval functions, in the words of rational numbers. -/
import Derived.Test.YtffabmojbelaaaaDoorSc
import Derived.Test.YtffabmojbelaaaaDoorU
import Derived.Test.YtffabmojbelaaaaDoorF
import Derived.Test.YtffabmojbelaaaaDoorH
import Derived.Test.YtffabmojbelaaaaDoorRg
namespace Go.Proofs.YtffabmojbelaaaaDoor
open Go.RowKit

theorem vr_of {L H : Rat} (hL : Rt.Fits L) (hH : Rt.Fits H) (h : L ≤ H) : vrP L.num L.den H.num H.den :=
  ⟨hL.vld, hH.vld, fun x => Rat.not_lt.2 h ((Rat.lt_iff _ _).2 x)⟩
theorem vr_rat {a b c d : Int} (h : vrP a b c d) : ∃ L H : Rat, Rt.Fits L ∧ Rt.Fits H ∧ L ≤ H ∧ a = L.num ∧ b = L.den ∧ c = H.num ∧ d = H.den := by
  obtain ⟨h1, h2, h3⟩ := h
  obtain ⟨L, hL, rfl, rfl⟩ := Rt.vld_rat h1
  obtain ⟨H, hH, rfl, rfl⟩ := Rt.vld_rat h2
  exact ⟨L, H, hL, hH, Rat.not_lt.1 (fun x => h3 ((Rat.lt_iff _ _).1 x)), rfl, rfl, rfl, rfl⟩

theorem has_rat {L H P : Rat} (hL : Rt.Fits L) (hH : Rt.Fits H) (h : L ≤ H) (hP : Rt.Fits P) (W : World) :
    Calls Tryd.prog 55 #[.agg #[.int .i64 L.num, .int .i64 (L.den : Int), .int .i64 H.num, .int .i64 (H.den : Int)], .agg #[.int .i64 P.num, .int .i64 (P.den : Int)]] W fun e w' => e = .returned (.bool (Rt.inR L H P)) ∧ Below W.heap.size W w' := by
  refine (has_ok _ _ _ _ _ _ W (vr_of hL hH h) hP.vld).mono fun _ _ ⟨he, hb⟩ => ⟨?_, hb⟩
  rw [he]
  have e : (!decide (P.num * (L.den : Int) < L.num * (P.den : Int)) && !decide (H.num * (P.den : Int) < P.num * (H.den : Int))) = Rt.inR L H P := by
    rw [Bool.eq_iff_iff, Rt.inR_iff, ← Rat.not_lt, ← Rat.not_lt, Rat.lt_iff, Rat.lt_iff]
    simp
  rw [e]

theorem ord_rat {P Q : Rat} (hP : Rt.Fits P) (hQ : Rt.Fits Q) (W : World) :
    Calls Tryd.prog 102 #[.agg #[.int .i64 P.num, .int .i64 (P.den : Int)], .agg #[.int .i64 Q.num, .int .i64 (Q.den : Int)], .func (.func 101) #[] #[]] W fun e w' => e = .returned (twoV (Rt.rmn P Q).num (Rt.rmn P Q).den (Rt.rmx P Q).num (Rt.rmx P Q).den) ∧ Below W.heap.size W w' := by
  refine (ord_any P.num P.den Q.num Q.den hP.vld hQ.vld W).mono fun _ _ ⟨he, hb⟩ => ⟨?_, hb⟩
  rw [he]
  by_cases h : Q < P
  · have h' := (Rat.lt_iff _ _).1 h
    unfold mn mx Rt.rmn Rt.rmx
    rw [if_pos h', if_pos h', if_pos h, if_pos h]
  · have h' := fun x => h ((Rat.lt_iff _ _).2 x)
    unfold mn mx Rt.rmn Rt.rmx
    rw [if_neg h', if_neg h', if_neg h, if_neg h]

theorem hull_rat {L H L' H' : Rat} (hL : Rt.Fits L) (hH : Rt.Fits H) (h : L ≤ H) (hL' : Rt.Fits L') (hH' : Rt.Fits H') (h' : L' ≤ H') (W : World) :
    Calls Tryd.prog 58 #[.agg #[.int .i64 L.num, .int .i64 (L.den : Int), .int .i64 H.num, .int .i64 (H.den : Int)], .agg #[.int .i64 L'.num, .int .i64 (L'.den : Int), .int .i64 H'.num, .int .i64 (H'.den : Int)]] W fun e w' =>
      e = .returned (rngV (Rt.rmn L L').num (Rt.rmn L L').den (Rt.rmx H H').num (Rt.rmx H H').den 0) ∧ Below W.heap.size W w' :=
  hull_ok _ _ _ _ _ _ _ _ _ _ _ _ _ _ _ _ W (vr_of hL hH h) (vr_of hL' hH' h') (Lib.hid (ord_rat hL hL')) (Lib.hid (ord_rat hH hH'))

theorem meet_rat {L H L' H' : Rat} (hL : Rt.Fits L) (hH : Rt.Fits H) (h : L ≤ H) (hL' : Rt.Fits L') (hH' : Rt.Fits H') (h' : L' ≤ H') (W : World) :
    Calls Tryd.prog 57 #[.agg #[.int .i64 L.num, .int .i64 (L.den : Int), .int .i64 H.num, .int .i64 (H.den : Int)], .agg #[.int .i64 L'.num, .int .i64 (L'.den : Int), .int .i64 H'.num, .int .i64 (H'.den : Int)]] W fun e w' =>
      e = .returned (if Rt.rmn H H' < Rt.rmx L L' then rngV 0 0 0 0 5 else rngV (Rt.rmx L L').num (Rt.rmx L L').den (Rt.rmn H H').num (Rt.rmn H H').den 0) ∧ Below W.heap.size W w' := by
  by_cases g : Rt.rmn H H' < Rt.rmx L L'
  · rw [if_pos g]
    exact meet_none _ _ _ _ _ _ _ _ _ _ _ _ _ _ _ _ W (vr_of hL hH h) (vr_of hL' hH' h') (Rt.rmn_fits hH hH').vld (Rt.rmx_fits hL hL').vld
      (by rw [decide_eq_true_iff, cmpZ_neg]; exact (Rat.lt_iff _ _).1 g) (Lib.hid (ord_rat hL hL')) (Lib.hid (ord_rat hH hH'))
  · rw [if_neg g]
    exact meet_ok _ _ _ _ _ _ _ _ _ _ _ _ _ _ _ _ W (vr_of hL hH h) (vr_of hL' hH' h') (Rt.rmn_fits hH hH').vld (Rt.rmx_fits hL hL').vld
      (by rw [decide_eq_false_iff_not, cmpZ_neg]; exact fun x => g ((Rat.lt_iff _ _).2 x)) (Lib.hid (ord_rat hL hL')) (Lib.hid (ord_rat hH hH'))

theorem cadd {A B : Rat} (hA : Rt.Fits A) (hB : Rt.Fits B) {r : Rt.Num} (hr : Rt.fit (A + B) = r) : ∀ W : World,
    Calls Tryd.prog 25 #[.agg #[.int .i64 A.num, .int .i64 (A.den : Int)], .agg #[.int .i64 B.num, .int .i64 (B.den : Int)]] W fun e w' => e = .returned (.tuple #[.agg #[.int .i64 r.n, .int .i64 r.d], .int .i64 r.e]) ∧ Below W.heap.size W w' := fun W => by
  have h := add_ok A.num A.den B.num B.den hA.vld hB.vld W
  rw [Rt.add_mk, hr] at h
  exact h
theorem cmul {A B : Rat} (hA : Rt.Fits A) (hB : Rt.Fits B) {r : Rt.Num} (hr : Rt.fit (A * B) = r) : ∀ W : World,
    Calls Tryd.prog 27 #[.agg #[.int .i64 A.num, .int .i64 (A.den : Int)], .agg #[.int .i64 B.num, .int .i64 (B.den : Int)]] W fun e w' => e = .returned (.tuple #[.agg #[.int .i64 r.n, .int .i64 r.d], .int .i64 r.e]) ∧ Below W.heap.size W w' := fun W => by
  have h := mul_ok A.num A.den B.num B.den hA.vld hB.vld W
  rw [Rt.mul_mk, hr] at h
  exact h

/-- what spread answers, of the two results U and V -/
def spR (U V : Rat) : Value :=
  if Rt.Fits U then if Rt.Fits V then rngV (Rt.rmn U V).num (Rt.rmn U V).den (Rt.rmx U V).num (Rt.rmx U V).den 0 else rngV 0 0 0 0 3 else rngV 0 0 0 0 3
theorem fit_e0 {U : Rat} (h : Rt.Fits U) : (Rt.fit U).e = 0 := by rw [Rt.fit_yes h]
theorem fit_e3 {U : Rat} (h : ¬ Rt.Fits U) : (Rt.fit U).e = 3 := by rw [Rt.fit_no h]
theorem ord_fit {U V : Rat} (hU : Rt.Fits U) (hV : Rt.Fits V) (W : World) :
    Calls Tryd.prog 102 #[.agg #[.int .i64 (Rt.fit U).n, .int .i64 (Rt.fit U).d], .agg #[.int .i64 (Rt.fit V).n, .int .i64 (Rt.fit V).d], .func (.func 101) #[] #[]] W fun e w' =>
      e = .returned (.tuple #[.agg #[.int .i64 (Rt.rmn U V).num, .int .i64 ((Rt.rmn U V).den : Int)], .agg #[.int .i64 (Rt.rmx U V).num, .int .i64 ((Rt.rmx U V).den : Int)]]) ∧ Below W.heap.size W w' := by
  rw [Rt.fit_yes hU, Rt.fit_yes hV]
  exact ord_rat hU hV W
theorem spadd_rat {A B A' B' : Rat} (hA : Rt.Fits A) (hB : Rt.Fits B) (hA' : Rt.Fits A') (hB' : Rt.Fits B') (W : World) :
    Calls Tryd.prog 103 #[.agg #[.int .i64 A.num, .int .i64 (A.den : Int), .int .i64 B.num, .int .i64 (B.den : Int), .int .i64 A'.num, .int .i64 (A'.den : Int), .int .i64 B'.num, .int .i64 (B'.den : Int)], .func (.func 25) #[] #[]] W fun e w' =>
      e = .returned (spR (A + B) (A' + B')) ∧ Below W.heap.size W w' := by
  have H1 := Lib.hid (cadd hA hB rfl)
  have H2 := Lib.hid (cadd hA' hB' rfl)
  unfold spR
  by_cases hU : Rt.Fits (A + B)
  · rw [if_pos hU]
    by_cases hV : Rt.Fits (A' + B')
    · rw [if_pos hV]
      exact spadd_ok _ _ _ _ _ _ _ _ _ _ _ _ _ _ (fit_e0 hU) (fit_e0 hV) (Lib.hid (ord_fit hU hV)) W H1 H2
    · rw [if_neg hV]
      have h := spadd_e2 _ _ _ _ _ _ _ _ _ _ (fit_e0 hU) (by rw [fit_e3 hV]; decide) W H1 H2
      rw [fit_e3 hV] at h; exact h
  · rw [if_neg hU]
    have h := spadd_e1 _ _ _ _ A'.num A'.den B'.num B'.den _ (by rw [fit_e3 hU]; decide) W H1
    rw [fit_e3 hU] at h; exact h
theorem spmul_rat {A B A' B' : Rat} (hA : Rt.Fits A) (hB : Rt.Fits B) (hA' : Rt.Fits A') (hB' : Rt.Fits B') (W : World) :
    Calls Tryd.prog 103 #[.agg #[.int .i64 A.num, .int .i64 (A.den : Int), .int .i64 B.num, .int .i64 (B.den : Int), .int .i64 A'.num, .int .i64 (A'.den : Int), .int .i64 B'.num, .int .i64 (B'.den : Int)], .func (.func 27) #[] #[]] W fun e w' =>
      e = .returned (spR (A * B) (A' * B')) ∧ Below W.heap.size W w' := by
  have H1 := Lib.hid (cmul hA hB rfl)
  have H2 := Lib.hid (cmul hA' hB' rfl)
  unfold spR
  by_cases hU : Rt.Fits (A * B)
  · rw [if_pos hU]
    by_cases hV : Rt.Fits (A' * B')
    · rw [if_pos hV]
      exact spmul_ok _ _ _ _ _ _ _ _ _ _ _ _ _ _ (fit_e0 hU) (fit_e0 hV) (Lib.hid (ord_fit hU hV)) W H1 H2
    · rw [if_neg hV]
      have h := spmul_e2 _ _ _ _ _ _ _ _ _ _ (fit_e0 hU) (by rw [fit_e3 hV]; decide) W H1 H2
      rw [fit_e3 hV] at h; exact h
  · rw [if_neg hU]
    have h := spmul_e1 _ _ _ _ A'.num A'.den B'.num B'.den _ (by rw [fit_e3 hU]; decide) W H1
    rw [fit_e3 hU] at h; exact h
theorem spR_form (U V : Rat) : ∃ (s1 s2 s3 s4 : Int) (E : Rt.Num), spR U V = rngV s1 s2 s3 s4 E.e ∧ (E.e = 0 → Rt.Fits U ∧ Rt.Fits V ∧ s1 = (Rt.rmn U V).num ∧ s2 = (Rt.rmn U V).den ∧ s3 = (Rt.rmx U V).num ∧ s4 = (Rt.rmx U V).den) := by
  unfold spR
  by_cases hU : Rt.Fits U
  · rw [if_pos hU]
    by_cases hV : Rt.Fits V
    · rw [if_pos hV]; exact ⟨_, _, _, _, ⟨0, 0, 0⟩, rfl, fun _ => ⟨hU, hV, rfl, rfl, rfl, rfl⟩⟩
    · rw [if_neg hV]; exact ⟨_, _, _, _, ⟨0, 0, 3⟩, rfl, fun h => by simp at h⟩
  · rw [if_neg hU]; exact ⟨_, _, _, _, ⟨0, 0, 3⟩, rfl, fun h => by simp at h⟩
end Go.Proofs.YtffabmojbelaaaaDoor
