/- What the claims of layer 3 share, part 5: several texts one behind the other. -/
import Derived.Test.YtidcedilfhmllaaDoorZ04
import Derived.BigQuiet
import Derived.Deep.MidRow
import Derived.Shelf.Abstract
set_option linter.unusedSimpArgs false
set_option linter.unusedVariables false
/- Contracts of package plate: turnings, take, Turn. -/
namespace Pl
/-- the functions that turnings are made of -/
def tf (k r c l : Nat) : Nat := match k with
  | 1 => r
  | 2 => c
  | 3 => l - r
  | _ => l - c
def tR (t : Nat) : Nat := match t with
  | 0 => 1 | 1 => 2 | 2 => 3 | 3 => 4 | 4 => 1 | 5 => 2 | 6 => 3 | _ => 4
def tC (t : Nat) : Nat := match t with
  | 0 => 2 | 1 => 3 | 2 => 4 | 3 => 1 | 4 => 4 | 5 => 1 | 6 => 2 | _ => 3
theorem tk_tf (side t x : Nat) (ht : t < 8) : tk side t x = tf (tR t) (x / side) (x % side) (side - 1) * side + tf (tC t) (x / side) (x % side) (side - 1) := by
  unfold tk
  have : t = 0 ∨ t = 1 ∨ t = 2 ∨ t = 3 ∨ t = 4 ∨ t = 5 ∨ t = 6 ∨ t = 7 := by omega
  rcases this with rfl | rfl | rfl | rfl | rfl | rfl | rfl | rfl <;> rfl
end Pl
namespace Go.Proofs.YtidcedilfhmllaaDoor
open Go.RowKit

/-- the closure of a turning's function -/
def tId (k : Nat) : Nat := match k with
  | 1 => 88
  | 2 => 89
  | 3 => 90
  | _ => 91
def tV (k : Nat) : Value := .func (.func (tId k)) #[] #[]
def Ent (i : Nat) : Prop := ∀ args W, (callFunc i args).run Tryd.prog W = .ok (.enter i args) W
def TfOk (i : Nat) (g : Nat → Nat → Nat → Nat) : Prop := ∀ (r c l : Nat) (w : World), r ≤ l → c ≤ l → l ≤ 5 → Calls Tryd.prog i #[.int .i64 (r : Int), .int .i64 (c : Int), .int .i64 (l : Int)] w fun e w' => e = .returned (.int .i64 (g r c l : Nat)) ∧ w' = w

theorem ent1 : Ent 88 := fun args W => Go.Proofs.enters_of Tryd.func88 (by kernel_rfl) rfl args W
theorem tf1_any : TfOk 88 (Pl.tf 1) := by
  intro r c l w h1 h2 h3
  go_enter Tryd.func88, Tryd.ntmps88
  go_wp2
  go_ret
  exact ⟨rfl, rfl⟩
theorem ent2 : Ent 89 := fun args W => Go.Proofs.enters_of Tryd.func89 (by kernel_rfl) rfl args W
theorem tf2_any : TfOk 89 (Pl.tf 2) := by
  intro r c l w h1 h2 h3
  go_enter Tryd.func89, Tryd.ntmps89
  go_wp2
  go_ret
  exact ⟨rfl, rfl⟩
theorem ent3 : Ent 90 := fun args W => Go.Proofs.enters_of Tryd.func90 (by kernel_rfl) rfl args W
theorem tf3_any : TfOk 90 (Pl.tf 3) := by
  intro r c l w h1 h2 h3
  have i1 : (0 : Int) ≤ (r : Int) := by omega
  have i2 : (r : Int) ≤ (l : Int) := by omega
  have i3 : (l : Int) ≤ 5 := by omega
  go_enter Tryd.func90, Tryd.ntmps90
  go_wp2
  go_ret
  exact ⟨ret_i64 (by show (l : Int) - (r : Int) = ((l - r : Nat) : Int); omega), rfl⟩
theorem ent4 : Ent 91 := fun args W => Go.Proofs.enters_of Tryd.func91 (by kernel_rfl) rfl args W
theorem tf4_any : TfOk 91 (Pl.tf 4) := by
  intro r c l w h1 h2 h3
  have i1 : (0 : Int) ≤ (c : Int) := by omega
  have i2 : (c : Int) ≤ (l : Int) := by omega
  have i3 : (l : Int) ≤ 5 := by omega
  go_enter Tryd.func91, Tryd.ntmps91
  go_wp2
  go_ret
  exact ⟨ret_i64 (by show (l : Int) - (c : Int) = ((l - c : Nat) : Int); omega), rfl⟩
theorem tR_ok (t : Nat) (ht : t < 8) : (TfOk (tId (Pl.tR t)) (Pl.tf (Pl.tR t)) ∧ TfOk (tId (Pl.tC t)) (Pl.tf (Pl.tC t))) ∧ Ent (tId (Pl.tR t)) ∧ Ent (tId (Pl.tC t)) := by
  have : t = 0 ∨ t = 1 ∨ t = 2 ∨ t = 3 ∨ t = 4 ∨ t = 5 ∨ t = 6 ∨ t = 7 := by omega
  rcases this with rfl | rfl | rfl | rfl | rfl | rfl | rfl | rfl
  · exact ⟨⟨tf1_any, tf2_any⟩, ent1, ent2⟩
  · exact ⟨⟨tf2_any, tf3_any⟩, ent2, ent3⟩
  · exact ⟨⟨tf3_any, tf4_any⟩, ent3, ent4⟩
  · exact ⟨⟨tf4_any, tf1_any⟩, ent4, ent1⟩
  · exact ⟨⟨tf1_any, tf4_any⟩, ent1, ent4⟩
  · exact ⟨⟨tf2_any, tf1_any⟩, ent2, ent1⟩
  · exact ⟨⟨tf3_any, tf2_any⟩, ent3, ent2⟩
  · exact ⟨⟨tf4_any, tf3_any⟩, ent4, ent3⟩

/-- a turning, as a value -/
def tnV (t : Nat) : Value := .agg #[tV (Pl.tR t), tV (Pl.tC t)]

set_option maxRecDepth 100000 in
set_option maxHeartbeats 2000000 in
theorem take_any (f g : Nat) (F G : Nat → Nat → Nat → Nat) (hF : Hid (TfOk f F)) (hG : Hid (TfOk g G)) (eF : Ent f) (eG : Ent g) (hb : ∀ r c l, r ≤ l → c ≤ l → F r c l ≤ l ∧ G r c l ≤ l) (side x : Nat) (h1 : 1 ≤ side) (h6 : side ≤ 6) (hx : x < side * side) (w : World) :
    Calls Tryd.prog 69 #[.agg #[.func (.func f) #[] #[], .func (.func g) #[] #[]], .int .i64 (side : Int), .int .i64 (x : Int)] w fun e w' => e = .returned (.int .i64 ((F (x / side) (x % side) (side - 1) * side + G (x / side) (x % side) (side - 1) : Nat) : Int)) ∧ Below w.heap.size w w' := by
  have hr : x / side ≤ side - 1 := by have := Nat.div_lt_of_lt_mul hx; omega
  have hc : x % side ≤ side - 1 := by have := Nat.mod_lt x (show 0 < side by omega); omega
  have HF := fun W => hF.out (x / side) (x % side) (side - 1) W hr hc (by omega)
  have HG := fun W => hG.out (x / side) (x % side) (side - 1) W hr hc (by omega)
  obtain ⟨b1, b2⟩ := hb _ _ _ hr hc
  rw [show ((x / side : Nat) : Int) = (x : Int) / (side : Int) from Int.natCast_ediv x side, show ((x % side : Nat) : Int) = (x : Int) % (side : Int) from Int.natCast_emod x side, show ((side - 1 : Nat) : Int) = (side : Int) - 1 by omega] at HF HG
  obtain ⟨y, hy⟩ : ∃ y, F (x / side) (x % side) (side - 1) = y := ⟨_, rfl⟩
  obtain ⟨z, hz⟩ : ∃ z, G (x / side) (x % side) (side - 1) = z := ⟨_, rfl⟩
  rw [hy] at HF b1 ⊢
  rw [hz] at HG b2 ⊢
  clear hy hz hF hG hb
  have hxx : (x : Int) ≤ 36 := by
    have h : side * side ≤ 6 * 6 := Nat.mul_le_mul h6 h6
    omega
  have i1 : (1 : Int) ≤ (side : Int) := by omega
  have i2 : (side : Int) ≤ 6 := by omega
  have i3 : ¬ (side : Int) = 0 := by omega
  have i4 : (0 : Int) ≤ (x : Int) := by omega
  have i5 : (0 : Int) ≤ (y : Int) := by omega
  have i6 : (y : Int) ≤ 5 := by omega
  have i7 : (0 : Int) ≤ (z : Int) := by omega
  have i8 : (z : Int) ≤ 5 := by omega
  have i9 : (0 : Int) ≤ (y : Int) * (side : Int) := Int.mul_nonneg i5 (by omega)
  have i10 : (y : Int) * (side : Int) ≤ 30 := by
    have h : y * side ≤ 5 * 6 := Nat.mul_le_mul (by omega) h6
    have : ((y * side : Nat) : Int) ≤ 30 := by omega
    rwa [Int.natCast_mul] at this
  have hq : (x : Int) / (side : Int) ≤ 6 := by
    have : (x / side : Nat) ≤ 6 := by omega
    rw [← Int.natCast_ediv]; exact Int.ofNat_le.2 this
  have hq0 : (0 : Int) ≤ (x : Int) / (side : Int) := by rw [← Int.natCast_ediv]; exact Int.natCast_nonneg _
  have hw64 : wrap64 ((x : Int) / (side : Int)) = (x : Int) / (side : Int) := IntWalk.wrap64_in _ (by omega)
  replace HF := Lib.hid HF
  replace HG := Lib.hid HG
  have eF' : ∀ args W, (callFunc f args).run Tryd.prog W = .ok (.enter f args) W := eF
  have eG' : ∀ args W, (callFunc g args).run Tryd.prog W = .ok (.enter g args) W := eG
  go_enter Tryd.func69, Tryd.ntmps69
  go_upto_region 1 with fail
  have g0 : (w.alloc (Obj.cells #[.func (.func f) #[] #[], .func (.func g) #[] #[]] 118)).cell? ⟨w.heap.size, 0, none⟩ = some (.func (.func f) #[] #[]) := by simp [go_sem]
  have g1 : (w.alloc (Obj.cells #[.func (.func f) #[] #[], .func (.func g) #[] #[]] 118)).cell? ⟨w.heap.size, 1, none⟩ = some (.func (.func g) #[] #[]) := by simp [go_sem]
  have hv : Below w.heap.size w (w.alloc (Obj.cells #[.func (.func f) #[] #[], .func (.func g) #[] #[]] 118)) := below_alloc (Below.refl _ _) _
  generalize w.alloc (Obj.cells #[.func (.func f) #[] #[], .func (.func g) #[] #[]] 118) = X at *
  go_region
  have g0' : X.drew.cell? ⟨w.heap.size, 0, none⟩ = some (.func (.func f) #[] #[]) := g0
  have g1' : X.drew.cell? ⟨w.heap.size, 1, none⟩ = some (.func (.func g) #[] #[]) := g1
  have hv' : Below w.heap.size w X.drew := hv.drew
  clear g0 g1 hv
  generalize X.drew = Y at *
  go_upto_region 2 with fail
  have S0 : Y.drew.cell? ⟨w.heap.size, 0, none⟩ = some (.func (.func f) #[] #[]) ∧ Y.drew.cell? ⟨w.heap.size, 1, none⟩ = some (.func (.func g) #[] #[]) ∧ Below w.heap.size w Y.drew := ⟨by assumption, by assumption, hv'.drew⟩
  go_region_held3 (fun w' => w'.cell? ⟨w.heap.size, 0, none⟩ = some (.func (.func f) #[] #[]) ∧ w'.cell? ⟨w.heap.size, 1, none⟩ = some (.func (.func g) #[] #[]) ∧ Below w.heap.size w w')
    (first | exact S0 | exact keep2 (by assumption) hbp | exact keep2 (by assumption) (drewN_below _) | exact keep2 (by assumption) (by repeat (first | with_reducible exact Below.refl _ _ | with_reducible assumption | refine below_drewN ?_ _ | refine Below.drew ?_ | refine Below.alloc ?_ (by first | (simp; done) | (simp; omega) | omega) _ | refine Below.setCell ?_ (by first | (simp; done) | (simp; omega) | omega) _ | refine Below.trans ?_ (Below.mono (by assumption) (by first | (simp; done) | (simp; omega) | omega)))) | go_keep)
    (first
      | (with_reducible refine (HF.out _).mono ?_
         rintro e wp ⟨he, hbp⟩
         subst he
         subst hbp)
      | (with_reducible refine (HG.out _).mono ?_
         rintro e wp ⟨he, hbp⟩
         subst he
         subst hbp))
  obtain ⟨-, -, hb9⟩ : _ ∧ _ ∧ Below w.heap.size w _ := by assumption
  clear S0 g0' g1' hv'
  go_wp2
  go_ret
  exact ⟨ret_i64 (by rw [Int.natCast_add, Int.natCast_mul, IntWalk.i64_left, IntWalk.i64_left, IntWalk.wrap64_in ((y : Int) * (side : Int)) (by omega), IntWalk.wrap64_in _ (by omega)]), hb9⟩

theorem tf_le (k r c l : Nat) (h1 : r ≤ l) (h2 : c ≤ l) : Pl.tf k r c l ≤ l := by
  unfold Pl.tf
  split <;> omega
/-- take -/
theorem takeT_any (t side x : Nat) (ht : t < 8) (h1 : 1 ≤ side) (h6 : side ≤ 6) (hx : x < side * side) (w : World) :
    Calls Tryd.prog 69 #[tnV t, .int .i64 (side : Int), .int .i64 (x : Int)] w fun e w' => e = .returned (.int .i64 (Pl.tk side t x : Nat)) ∧ Below w.heap.size w w' := by
  rw [Pl.tk_tf side t x ht]
  obtain ⟨⟨hR, hC⟩, eR, eC⟩ := tR_ok t ht
  exact take_any _ _ _ _ (Lib.hid hR) (Lib.hid hC) eR eC (fun r c l a b => ⟨tf_le _ r c l a b, tf_le _ r c l a b⟩) side x h1 h6 hx w

theorem below_setC {B b : Nat} {a : World} (hb : B ≤ b) : ∀ (vs : List Value) (o : Nat) (w : World), Below B a w → Below B a (w.setCells b o vs)
  | [], _, _, h => h
  | v :: vs, o, w, h => below_setC hb vs (o + 1) _ (h.setCell (p := ⟨b, o, none⟩) hb v)
/-- all turnings -/
def tnsV : Array Value := ((List.range 8).flatMap fun t => [tV (Pl.tR t), tV (Pl.tC t)]).toArray
set_option maxRecDepth 100000 in
set_option maxHeartbeats 4000000 in
theorem turnings_any (w : World) :
    Calls Tryd.prog 68 #[] w fun e w' => e = .returned (.agg tnsV) ∧ Below w.heap.size w w' := by
  have hrow : (w.alloc (Obj.cells #[.nilFunc, .nilFunc, .nilFunc, .nilFunc, .nilFunc, .nilFunc, .nilFunc, .nilFunc, .nilFunc, .nilFunc, .nilFunc, .nilFunc, .nilFunc, .nilFunc, .nilFunc, .nilFunc] 119)).there w.heap.size 0 16 := fun j hj => by
    have : j = 0 ∨ j = 1 ∨ j = 2 ∨ j = 3 ∨ j = 4 ∨ j = 5 ∨ j = 6 ∨ j = 7 ∨ j = 8 ∨ j = 9 ∨ j = 10 ∨ j = 11 ∨ j = 12 ∨ j = 13 ∨ j = 14 ∨ j = 15 := by omega
    rcases this with rfl | rfl | rfl | rfl | rfl | rfl | rfl | rfl | rfl | rfl | rfl | rfl | rfl | rfl | rfl | rfl <;> simp [go_sem]
  have hb : Below w.heap.size w (w.alloc (Obj.cells #[.nilFunc, .nilFunc, .nilFunc, .nilFunc, .nilFunc, .nilFunc, .nilFunc, .nilFunc, .nilFunc, .nilFunc, .nilFunc, .nilFunc, .nilFunc, .nilFunc, .nilFunc, .nilFunc] 119)) := below_alloc (Below.refl _ _) _
  go_enter Tryd.func68, Tryd.ntmps68
  go_upto_region 5 with fail
  generalize w.alloc (Obj.cells #[.nilFunc, .nilFunc, .nilFunc, .nilFunc, .nilFunc, .nilFunc, .nilFunc, .nilFunc, .nilFunc, .nilFunc, .nilFunc, .nilFunc, .nilFunc, .nilFunc, .nilFunc, .nilFunc] 119) = X at *
  go_wp2_with (refine wpList_store_mid rfl 119 (.tmp 0) (.tmp 29) rfl w.heap.size 0 tnsV ?x1 ?x2 hrow ?x3 ?x4 ?_)
  case x1 => rfl
  case x2 => rfl
  case x3 => kernel_rfl
  case x4 => kernel_rfl
  have hsame := World.rangeAt_setCells_same X w.heap.size 0 tnsV.toList (show X.there w.heap.size 0 tnsV.toList.length from hrow)
  have hbs : Below w.heap.size w (X.setCells w.heap.size 0 tnsV.toList) := below_setC (Nat.le_refl _) _ _ _ hb
  generalize X.setCells w.heap.size 0 tnsV.toList = Z at *
  have c0 : Z.cell? ⟨w.heap.size, 0, none⟩ = some (tV 1) := hsame 0 _ rfl
  have c1 : Z.cell? ⟨w.heap.size, 1, none⟩ = some (tV 2) := hsame 1 _ rfl
  have c2 : Z.cell? ⟨w.heap.size, 2, none⟩ = some (tV 2) := hsame 2 _ rfl
  have c3 : Z.cell? ⟨w.heap.size, 3, none⟩ = some (tV 3) := hsame 3 _ rfl
  have c4 : Z.cell? ⟨w.heap.size, 4, none⟩ = some (tV 3) := hsame 4 _ rfl
  have c5 : Z.cell? ⟨w.heap.size, 5, none⟩ = some (tV 4) := hsame 5 _ rfl
  have c6 : Z.cell? ⟨w.heap.size, 6, none⟩ = some (tV 4) := hsame 6 _ rfl
  have c7 : Z.cell? ⟨w.heap.size, 7, none⟩ = some (tV 1) := hsame 7 _ rfl
  have c8 : Z.cell? ⟨w.heap.size, 8, none⟩ = some (tV 1) := hsame 8 _ rfl
  have c9 : Z.cell? ⟨w.heap.size, 9, none⟩ = some (tV 4) := hsame 9 _ rfl
  have c10 : Z.cell? ⟨w.heap.size, 10, none⟩ = some (tV 2) := hsame 10 _ rfl
  have c11 : Z.cell? ⟨w.heap.size, 11, none⟩ = some (tV 1) := hsame 11 _ rfl
  have c12 : Z.cell? ⟨w.heap.size, 12, none⟩ = some (tV 3) := hsame 12 _ rfl
  have c13 : Z.cell? ⟨w.heap.size, 13, none⟩ = some (tV 2) := hsame 13 _ rfl
  have c14 : Z.cell? ⟨w.heap.size, 14, none⟩ = some (tV 4) := hsame 14 _ rfl
  have c15 : Z.cell? ⟨w.heap.size, 15, none⟩ = some (tV 3) := hsame 15 _ rfl
  clear hsame hrow
  refine bodyPost_ret (v := .agg tnsV) (by simp [results, Tryd.results68, go_sem, c0, c1, c2, c3, c4, c5, c6, c7, c8, c9, c10, c11, c12, c13, c14, c15]; rfl) rfl ?_
  exact ⟨rfl, hbs⟩
end Go.Proofs.YtidcedilfhmllaaDoor
