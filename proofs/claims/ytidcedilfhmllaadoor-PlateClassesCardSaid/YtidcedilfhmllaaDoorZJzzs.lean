/- Contracts of the specification of layer 3: Step, whatever the step; spots in boxes. -/
import Derived.Test.YtidcedilfhmllaaDoorZJzze
import Derived.Test.YtidcedilfhmllaaDoorZ13
import Derived.Test.YtidcedilfhmllaaDoorZ12
set_option linter.unusedSimpArgs false
set_option linter.unusedVariables false
namespace Go.Proofs.YtidcedilfhmllaaDoor
open Go.RowKit

theorem rStep_any (s m : Int) (a : Option Addr) (q cap : Nat) (L : List Pl.Wk) (hq : L.length = q) (hq2 : q ≤ 16) (hok : Hid (Pl.Ok m L)) (p : Int) (t : Nat) (mn : Bool) (ht : t < 8) (k : Int) (hk1 : -(q : Int) ≤ k) (hk2 : k < q) (w : World) (hL : Hid (WksAt w a L)) :
    Calls Tryd.prog 82 #[.agg #[.int .i64 s, .int .i64 m, .slice a q cap], .agg #[.int .i64 p, .int .i64 (t : Int), .bool mn], .int .i64 k] w fun e w' => e = .returned (.tuple #[stV (Pl.stp L ⟨p, t, mn⟩ k).1, .bool (Pl.stp L ⟨p, t, mn⟩ k).2]) ∧ Below w.heap.size w w' := by
  obtain ⟨j, hj, hjq⟩ : ∃ j : Nat, Pl.wof k = j ∧ j < q := by
    refine ⟨(Pl.wof k).toNat, ?_, ?_⟩ <;> (unfold Pl.wof; split <;> omega)
  obtain ⟨x, rfl, hl3⟩ := hL.out j (by omega)
  obtain ⟨f, g, u, hl⟩ : ∃ f g u, L.getD j Pl.noW = ⟨f, g, u⟩ := ⟨_, _, _, rfl⟩
  have hokj := Pl.okW_spec (hok.out j (by omega))
  rw [hl] at hl3 hokj
  obtain ⟨o1, o2, o3, o4, o5, o6, o7⟩ := hokj
  simp only at o6 o7
  obtain ⟨un, hun⟩ : ∃ un : Nat, u = un := ⟨u.toNat, by omega⟩
  subst hun
  have hun8 : un < 8 := by omega
  have hdir : Pl.dirW L k = if k < 0 then ⟨g, f, (Pl.inv un : Nat)⟩ else ⟨f, g, (un : Int)⟩ := by
    unfold Pl.dirW
    rw [hj, Int.toNat_natCast, hl]
    rfl
  unfold Pl.stp
  rw [hdir]
  by_cases hk0 : k < 0
  · rw [if_pos hk0]
    have e : k = -1 - (j : Int) := by unfold Pl.wof at hj; rw [if_pos hk0] at hj; omega
    exact rStep_neg s m x q cap p t mn ht k j e hjq hq2 f g un hun8 _ (Lib.hid rfl) _ (Lib.hid rfl) w hl3
  · rw [if_neg hk0]
    have e : k = (j : Int) := by unfold Pl.wof at hj; rw [if_neg hk0] at hj; omega
    exact rStep_pos s m x q cap p t mn ht k j e hjq hq2 f g un hun8 _ (Lib.hid rfl) _ (Lib.hid rfl) w hl3

/-- a spot in a box of its own -/
def SP (W : World) (b : Nat) (y : Pl.St) : Prop := W.rowIs b 100 3 (fun i => if i = 0 then .int .i64 y.p else if i = 1 then .int .i64 (y.t : Int) else .bool y.m)
theorem SP.below {W W' : World} {b : Nat} {y : Pl.St} (h : SP W b y) (hb : Below W.heap.size W W') : SP W' b y := Below.row' hb h
theorem SP.set {W : World} {b : Nat} {y : Pl.St} (h : SP W b y) (z : Pl.St) : SP (((W.setCell ⟨b, 0, none⟩ (.int .i64 z.p)).setCell ⟨b, 1, none⟩ (.int .i64 (z.t : Int))).setCell ⟨b, 2, none⟩ (.bool z.m)) b z :=
  (((World.rowIs.set h 0 _).set 1 _).set 2 _).congr (fun i hi => by
    have : i = 0 ∨ i = 1 ∨ i = 2 := by omega
    rcases this with rfl | rfl | rfl <;> simp)

theorem sp_new (X : World) (y : Pl.St) : SP (X.alloc (Obj.cells #[.int .i64 y.p, .int .i64 (y.t : Int), .bool y.m] 100)) X.heap.size y :=
  World.rowIs_alloc X _ _ _ (fun i hi => by
    match i, hi with
    | 0, _ => rfl
    | 1, _ => rfl
    | 2, _ => rfl)
theorem far3s {Z : World} {b c : Nat} {y : Pl.St} {u0 u1 u2 : Value} (h : SP Z c y) (hbc : c < b) : SP (((Z.setCell ⟨b, 0, none⟩ u0).setCell ⟨b, 1, none⟩ u1).setCell ⟨b, 2, none⟩ u2) c y :=
  World.rowIs.of_block h (((((Below.refl (c + 1) Z).setCell (p := ⟨b, 0, none⟩) hbc _).setCell (p := ⟨b, 1, none⟩) hbc _).setCell (p := ⟨b, 2, none⟩) hbc _).block c (Nat.lt_succ_self c))
end Go.Proofs.YtidcedilfhmllaaDoor
