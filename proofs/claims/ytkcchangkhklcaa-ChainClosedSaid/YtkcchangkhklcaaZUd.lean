/- Package chain, mirrored: Reach. -/
import Derived.Test.YtkcchangkhklcaaZUc
set_option linter.unusedSimpArgs false
set_option linter.unusedVariables false
namespace Ch

/-- the levels of a system -/
def lvs (n : Nat) (L : List Lk) (k : Nat) : List Int := ((levels n L [] k).getD none).getD []
/-- by how much levels are raised -/
def rz (s lv : List Int) (u v : Nat) : Int := max (-(lv.getD v 0)) (s.getD u 0 - lv.getD u 0)
/-- the lesser one of a bound and a raised level -/
def low (s lv : List Int) (r : Int) (i : Nat) : Int := min (s.getD i 0) (lv.getD i 0 + r)
def reachF (s lv : List Int) (u v : Nat) : List Int := (List.range lv.length).map fun i => low s lv (rz s lv u v) 0 - low s lv (rz s lv u v) i
/-- Reach -/
def reach (n : Int) (L : List Lk) (k : Nat) (u v : Int) : List Int × Int :=
  if opn n L [u, v] k ≠ 0 then ([], opn n L [u, v] k) else
  if (bt n.toNat L [] k v.toNat).getD u.toNat 0 = free then ([], 5) else (reachF (bt n.toNat L [] k v.toNat) (lvs n.toNat L k) u.toNat v.toNat, 0)
theorem reachF_at {s lv : List Int} {u v i : Nat} (h : i < lv.length) : (reachF s lv u v).getD i 0 = low s lv (rz s lv u v) 0 - low s lv (rz s lv u v) i := by
  unfold reachF
  rw [List.getD, List.getElem?_map, List.getElem?_range h]; rfl
theorem reachF_len {s lv : List Int} {u v : Nat} : (reachF s lv u v).length = lv.length := by simp [reachF]

/-- levels: how large they are, and that they keep the links -/
structure LV (n : Nat) (L : List Lk) (lv : List Int) : Prop where
  len : lv.length = n
  b : ∀ i, i < n → -265712378014859264 ≤ lv.getD i 0 ∧ lv.getD i 0 ≤ 0
  sol : Sol L [] fun i => lv.getD i 0
theorem lv_spec {n : Nat} (h1 : 1 ≤ n) (h2 : n ≤ 60) {L : List Lk} (hok : ∀ j, j < L.length → okLk n (L.getD j noLk) = true) {k : Nat} (hc : cons n L [] k = true) : levels n L [] k = some (some (lvs n L k)) ∧ LV n L (lvs n L k) := by
  unfold cons at hc
  split at hc
  · rename_i s e
    have e2 : lvs n L k = s := by unfold lvs; rw [e]; rfl
    rw [e2]
    have hf := settleGo_finds hok ((begin_zero n).wf h1 h2) ((begin_zero n).rx h2 L []) e
    obtain ⟨y, hy, ey⟩ := settleGo_wf hok ((begin_zero n).wf h1 h2) e
    refine ⟨e, hf.2.2, fun i hi => ⟨?_, ?_⟩, levels_sol h1 h2 hok e⟩
    · have a1 := hy.lo i hi
      have a2 := (hy.cb i hi).2
      rw [ey] at a1
      omega
    · have a1 := hf.2.1 i hi
      have a2 : (List.replicate n (0 : Int)).getD i 0 = 0 := by
        rw [List.getD, List.getElem?_replicate, if_pos hi]; rfl
      rw [show (settle0 (List.replicate n 0)).s = List.replicate n 0 from rfl, a2] at a1
      exact a1
  · cases hc
end Ch
