/- What the claims of layer 2 share, part 2: several texts one behind the other. -/
import Derived.Shelf.SlIterI.Sorted
import Derived.Shelf.SlGeneric
import Derived.Shelf.Spec.SlicesGrow
import Derived.Shelf.Strings.Builder1
import Derived.Shelf.Strings.BuilderF
import Derived.Shelf.Strings.BuilderK
import Derived.Shelf.Strconv.Itoa0
import Derived.Shelf.Strconv.Itoa1
import Derived.Shelf.LaysM
import Derived.Shelf.Strconv.Itoa2
import Derived.Shelf.Strconv.Itoa3
import Derived.Shelf.Slices.Reverse
import Derived.Test.YtmkjmpkicmadcaaDoorProg
import Derived.ProofKit
import Derived.Test.YtmkjmpkicmadcaaDoorZ01
set_option linter.unusedSimpArgs false
set_option linter.unusedVariables false
/- Layer 3, plain: cells that are joined with signs, and how chain after chain of them is united. -/
namespace Pl

def sg (m : Bool) : Int := if m then -1 else 1
theorem sg_xor (a b : Bool) : sg (a != b) = sg a * sg b := by cases a <;> cases b <;> rfl
theorem sg_inj {a b : Bool} (h : sg a = sg b) : a = b := by cases a <;> cases b <;> first | rfl | (simp [sg] at h)
/-- joined over some edges, with the sign of the way -/
inductive Jn (E : List (Nat × Nat × Bool)) : Nat → Nat → Bool → Prop
  | refl (x : Nat) : Jn E x x false
  | fwd {x y z : Nat} {m e : Bool} : Jn E x y m → (y, z, e) ∈ E → Jn E x z (m != e)
  | bwd {x y z : Nat} {m e : Bool} : Jn E x y m → (z, y, e) ∈ E → Jn E x z (m != e)
theorem xor_assoc (a b c : Bool) : (a != (b != c)) = ((a != b) != c) := by cases a <;> cases b <;> cases c <;> rfl
theorem xor_comm (a b : Bool) : (a != b) = (b != a) := by cases a <;> cases b <;> rfl
theorem Jn.trans {E : List (Nat × Nat × Bool)} {x y z : Nat} {m e : Bool} (h : Jn E x y m) (g : Jn E y z e) : Jn E x z (m != e) := by
  induction g with
  | refl => simpa using h
  | fwd _ hE ih => rw [xor_assoc]; exact ih.fwd hE
  | bwd _ hE ih => rw [xor_assoc]; exact ih.bwd hE
theorem Jn.edge {E : List (Nat × Nat × Bool)} {x y : Nat} {e : Bool} (h : (x, y, e) ∈ E) : Jn E x y e := by
  have := (Jn.refl (E := E) x).fwd h
  simpa using this
theorem Jn.egde {E : List (Nat × Nat × Bool)} {x y : Nat} {e : Bool} (h : (y, x, e) ∈ E) : Jn E x y e := by
  have := (Jn.refl (E := E) x).bwd h
  simpa using this
theorem Jn.symm {E : List (Nat × Nat × Bool)} {x y : Nat} {m : Bool} (h : Jn E x y m) : Jn E y x m := by
  induction h with
  | refl => exact Jn.refl _
  | fwd _ hE ih => rw [xor_comm]; exact (Jn.egde hE).trans ih
  | bwd _ hE ih => rw [xor_comm]; exact (Jn.edge hE).trans ih
theorem Jn.mono {E F : List (Nat × Nat × Bool)} (h : ∀ e ∈ E, e ∈ F) {x y : Nat} {m : Bool} (g : Jn E x y m) : Jn F x y m := by
  induction g with
  | refl => exact Jn.refl _
  | fwd _ hE ih => exact ih.fwd (h _ hE)
  | bwd _ hE ih => exact ih.bwd (h _ hE)

/-- the classes of the cells below N, when the edges E are united -/
structure Uf (N : Nat) (E : List (Nat × Nat × Bool)) (l : Nat → Nat) (w : Nat → Int) : Prop where
  le : ∀ c, c < N → l c ≤ c
  id : ∀ c, c < N → l (l c) = l c
  rt : ∀ c, c < N → w (l c) = 1 ∨ w (l c) = 0
  tri : ∀ c, c < N → w c = 1 ∨ w c = -1 ∨ w c = 0
  pin : ∀ x y, x < N → y < N → l x = l y → w x = 0 → w y = 0
  snd : ∀ c m, c < N → w c = 0 ∨ w c = sg m → Jn E c (l c) m
  cpl : ∀ x y e, (x, y, e) ∈ E → x < N ∧ y < N ∧ l x = l y ∧ (w x = 0 ∨ w x * w y = sg e)
theorem uf_start (N : Nat) : Uf N [] (fun c => c) (fun _ => 1) := by
  refine ⟨fun c _ => Nat.le_refl _, fun c _ => rfl, fun c _ => Or.inl rfl, fun c _ => Or.inl rfl, fun x y _ _ _ h => by simp at h, fun c m _ h => ?_, fun x y e h => by cases h⟩
  cases m
  · exact Jn.refl _
  · simp [sg] at h
/-- what the classes say is what is joined -/
theorem Uf.iff {N : Nat} {E : List (Nat × Nat × Bool)} {l : Nat → Nat} {w : Nat → Int} (h : Uf N E l w) {x y : Nat} (hx : x < N) (hy : y < N) (m : Bool) : Jn E x y m ↔ l x = l y ∧ (w x = 0 ∨ w x * w y = sg m) := by
  have sq : ∀ c, c < N → w c ≠ 0 → w c * w c = 1 := fun c hc h0 => by
    rcases h.tri c hc with e | e | e
    · rw [e]; rfl
    · rw [e]; rfl
    · exact absurd e h0
  constructor
  · intro g
    have key : ∀ {a b : Nat} {m : Bool}, Jn E a b m → a < N → b < N ∧ l a = l b ∧ (w a = 0 ∨ w a * w b = sg m) := by
      intro a b m g ha
      induction g with
      | refl =>
        refine ⟨ha, rfl, ?_⟩
        by_cases h0 : w a = 0
        · exact Or.inl h0
        · exact Or.inr (sq _ ha h0)
      | @fwd y z m e _ hE ih =>
        obtain ⟨hy, h1, h2⟩ := ih
        obtain ⟨_, hz, h3, h4⟩ := h.cpl _ _ _ hE
        refine ⟨hz, h1.trans h3, ?_⟩
        by_cases h0 : w a = 0
        · exact Or.inl h0
        · right
          have hy0 : w y ≠ 0 := fun e => h0 (h.pin y a hy ha h1.symm e)
          rw [sg_xor, ← h2.resolve_left h0, ← h4.resolve_left hy0, Int.mul_assoc, ← Int.mul_assoc (w y), sq y hy hy0, Int.one_mul]
      | @bwd y z m e _ hE ih =>
        obtain ⟨hy, h1, h2⟩ := ih
        obtain ⟨hz, _, h3, h4⟩ := h.cpl _ _ _ hE
        refine ⟨hz, h1.trans h3.symm, ?_⟩
        by_cases h0 : w a = 0
        · exact Or.inl h0
        · right
          have hy0 : w y ≠ 0 := fun e => h0 (h.pin y a hy ha h1.symm e)
          have hz0 : w z ≠ 0 := fun e => hy0 (h.pin z y hz hy h3 e)
          have h5 := h4.resolve_left hz0
          rw [sg_xor, ← h2.resolve_left h0, ← h5, Int.mul_comm (w z), Int.mul_assoc, ← Int.mul_assoc (w y), sq y hy hy0, Int.one_mul]
    exact (key g hx).2
  · rintro ⟨h1, h2⟩
    by_cases h0 : w x = 0
    · have h3 := h.pin x y hx hy h1 h0
      have a := h.snd x m hx (Or.inl h0)
      have b := (h.snd y false hy (Or.inl h3)).symm
      rw [h1] at a
      simpa using a.trans b
    · have hy0 : w y ≠ 0 := fun e => h0 (h.pin y x hy hx h1.symm e)
      have sgn : ∀ c, c < N → w c ≠ 0 → ∃ m, w c = sg m := fun c hc h0 => by
        rcases h.tri c hc with e | e | e
        · exact ⟨false, e⟩
        · exact ⟨true, e⟩
        · exact absurd e h0
      obtain ⟨a, ha⟩ := sgn x hx h0
      obtain ⟨b, hb⟩ := sgn y hy hy0
      have h3 := h2.resolve_left h0
      rw [ha, hb, ← sg_xor] at h3
      have ja := h.snd x a hx (Or.inr ha)
      have jb := (h.snd y b hy (Or.inr hb)).symm
      rw [h1] at ja
      rw [← sg_inj h3]
      exact ja.trans jb

/-- unite: two cells, and the way between them -/
def stay (l : Nat → Nat) (x y : Nat) : Nat := min (l x) (l y)
def goes (l : Nat → Nat) (x y : Nat) : Nat := max (l x) (l y)
def across (l : Nat → Nat) (w : Nat → Int) (x y : Nat) (e : Bool) : Int :=
  if stay l x y = goes l x y ∧ w x * sg e * w y = -1 then 0 else w x * sg e * w y
def unL (l : Nat → Nat) (x y : Nat) : Nat → Nat := fun c => if l c = goes l x y then stay l x y else l c
def unW (l : Nat → Nat) (w : Nat → Int) (x y : Nat) (e : Bool) : Nat → Int := fun c =>
  if l c = goes l x y then w c * across l w x y e else if l c = stay l x y then w c * (across l w x y e * across l w x y e) else w c
theorem sg_cases (e : Bool) : sg e = 1 ∨ sg e = -1 := by cases e <;> simp [sg]
theorem tri_mul {a b : Int} (ha : a = 1 ∨ a = -1 ∨ a = 0) (hb : b = 1 ∨ b = -1 ∨ b = 0) : a * b = 1 ∨ a * b = -1 ∨ a * b = 0 := by
  rcases ha with rfl | rfl | rfl <;> rcases hb with rfl | rfl | rfl <;> simp
set_option maxHeartbeats 4000000 in
theorem Uf.unite {N : Nat} {E : List (Nat × Nat × Bool)} {l : Nat → Nat} {w : Nat → Int} (h : Uf N E l w) {x y : Nat} (hx : x < N) (hy : y < N) (e : Bool) : Uf N ((x, y, e) :: E) (unL l x y) (unW l w x y e) := by
  have hsg : (stay l x y = l x ∧ goes l x y = l y) ∨ (stay l x y = l y ∧ goes l x y = l x) := by unfold stay goes; omega
  have hle : stay l x y ≤ goes l x y := by unfold stay goes; omega
  obtain ⟨A, hA⟩ : ∃ A, across l w x y e = A := ⟨_, rfl⟩
  have eL : ∀ c, unL l x y c = if l c = goes l x y then stay l x y else l c := fun _ => rfl
  have eW : ∀ c, unW l w x y e c = if l c = goes l x y then w c * A else if l c = stay l x y then w c * (A * A) else w c := fun c => by unfold unW; rw [hA]
  have hA' : A = if stay l x y = goes l x y ∧ w x * sg e * w y = -1 then 0 else w x * sg e * w y := by rw [← hA]; rfl
  generalize unL l x y = l' at *
  generalize unW l w x y e = w' at *
  generalize stay l x y = s at *
  generalize goes l x y = g at *
  clear hA
  have lx := h.le x hx
  have ly := h.le y hy
  have ix := h.id x hx
  have iy := h.id y hy
  have sN : s < N := by omega
  have gN : g < N := by omega
  have ls : l s = s := by rcases hsg with ⟨a, _⟩ | ⟨a, _⟩ <;> rw [a] <;> assumption
  have lg : l g = g := by rcases hsg with ⟨_, a⟩ | ⟨_, a⟩ <;> rw [a] <;> assumption
  have inx : l x = g ∨ l x = s := by omega
  have iny : l y = g ∨ l y = s := by omega
  have tx := h.tri x hx
  have ty := h.tri y hy
  have tp : w x * sg e * w y = 1 ∨ w x * sg e * w y = -1 ∨ w x * sg e * w y = 0 := tri_mul (tri_mul tx (by rcases sg_cases e with h | h <;> simp [h])) ty
  have F3 : A = 1 ∨ A = -1 ∨ A = 0 := by
    rw [hA']
    split
    · exact Or.inr (Or.inr rfl)
    · exact tp
  have F4 : s = g → A = 1 ∨ A = 0 := fun hs => by
    rw [hA']
    by_cases hp : w x * sg e * w y = -1
    · rw [if_pos ⟨hs, hp⟩]; exact Or.inr rfl
    · rw [if_neg (fun q => hp q.2)]
      rcases tp with q | q | q
      · exact Or.inl q
      · exact absurd q hp
      · exact Or.inr q
  have F6 : A ≠ 0 → A = w x * sg e * w y := fun h0 => by
    rw [hA'] at h0 ⊢
    split
    · rename_i hc; rw [if_pos hc] at h0; exact absurd rfl h0
    · rfl
  have F5 : A ≠ 0 → w x ≠ 0 ∧ w y ≠ 0 := fun h0 => by
    have := F6 h0
    constructor <;> intro q <;> rw [q] at this <;> simp at this <;> exact h0 this
  have F7 : A = 0 → w x = 0 ∨ w y = 0 ∨ (s = g ∧ w x * sg e * w y = -1) := fun h0 => by
    by_cases hc : s = g ∧ w x * sg e * w y = -1
    · exact Or.inr (Or.inr hc)
    · rw [if_neg hc] at hA'
      rw [h0] at hA'
      rcases Int.mul_eq_zero.1 hA'.symm with q | q
      · rcases Int.mul_eq_zero.1 q with q | q
        · exact Or.inl q
        · rcases sg_cases e with r | r <;> rw [r] at q <;> cases q
      · exact Or.inr (Or.inl q)
  have AA : A ≠ 0 → A * A = 1 := fun h0 => by
    rcases F3 with q | q | q
    · rw [q]; rfl
    · rw [q]; rfl
    · exact absurd q h0
  -- in a class that is united, nothing is pinned unless all is
  have np : A ≠ 0 → ∀ c, c < N → l c = g ∨ l c = s → w c ≠ 0 := fun h0 c hc hm q => by
    obtain ⟨a, b⟩ := F5 h0
    rcases hsg with ⟨p1, p2⟩ | ⟨p1, p2⟩ <;> rcases hm with r | r
    · exact b (h.pin c y hc hy (by omega) q)
    · exact a (h.pin c x hc hx (by omega) q)
    · exact a (h.pin c x hc hx (by omega) q)
    · exact b (h.pin c y hc hy (by omega) q)
  have all0 : A = 0 → ∀ c, l c = g ∨ l c = s → w' c = 0 := fun h0 c hm => by
    rw [eW, h0]
    split
    · simp
    · split
      · simp
      · rename_i h1 h2
        rcases hm with r | r
        · exact absurd r h1
        · exact absurd r h2
  have out : ∀ c, ¬ (l c = g ∨ l c = s) → w' c = w c ∧ l' c = l c := fun c hm => by
    rw [eW, eL, if_neg (fun q => hm (Or.inl q)), if_neg (fun q => hm (Or.inr q)), if_neg (fun q => hm (Or.inl q))]
    exact ⟨rfl, rfl⟩
  have inn : ∀ c, l c = g ∨ l c = s → l' c = s := fun c hm => by
    rw [eL]
    split
    · rfl
    · rename_i q
      exact hm.resolve_left q
  have ed : Jn ((x, y, e) :: E) x y e := Jn.edge List.mem_cons_self
  have old : ∀ {a b : Nat} {m : Bool}, Jn E a b m → Jn ((x, y, e) :: E) a b m := fun j => j.mono fun _ q => List.mem_cons_of_mem _ q
  have some1 : ∀ c, c < N → ∃ m, Jn E c (l c) m := fun c hc => by
    rcases h.tri c hc with q | q | q
    · exact ⟨false, h.snd c false hc (Or.inr q)⟩
    · exact ⟨true, h.snd c true hc (Or.inr q)⟩
    · exact ⟨false, h.snd c false hc (Or.inl q)⟩
  have some2 : ∀ a b, a < N → b < N → l a = l b → ∃ m, Jn ((x, y, e) :: E) a b m := fun a b ha hb hl => by
    obtain ⟨m1, j1⟩ := some1 a ha
    obtain ⟨m2, j2⟩ := some1 b hb
    rw [hl] at j1
    exact ⟨_, old (j1.trans j2.symm)⟩
  refine ⟨fun c hc => ?_, fun c hc => ?_, fun c hc => ?_, fun c hc => ?_, fun a b ha hb hl h0 => ?_, fun c m hc hm => ?_, fun a b f hE => ?_⟩
  · have := h.le c hc
    by_cases hm : l c = g ∨ l c = s
    · rw [inn c hm]; omega
    · rw [(out c hm).2]; omega
  · by_cases hm : l c = g ∨ l c = s
    · rw [inn c hm]; exact inn s (Or.inr ls)
    · rw [(out c hm).2]
      have q := h.id c hc
      rw [(out (l c) (by rw [q]; exact hm)).2]
      exact q
  · by_cases hm : l c = g ∨ l c = s
    · rw [inn c hm]
      have rs : w s = 1 ∨ w s = 0 := by have := h.rt s sN; rw [ls] at this; exact this
      rw [eW, ls]
      by_cases hq : s = g
      · rw [if_pos hq]
        rcases F4 hq with q | q <;> rw [q] <;> rcases rs with r | r <;> rw [r] <;> simp
      · rw [if_neg hq, if_pos rfl]
        rcases F3 with q | q | q <;> rw [q] <;> rcases rs with r | r <;> rw [r] <;> simp
    · rw [(out c hm).2]
      have q := h.id c hc
      rw [(out (l c) (by rw [q]; exact hm)).1]
      exact h.rt c hc
  · rw [eW]
    split
    · exact tri_mul (h.tri c hc) F3
    · split
      · exact tri_mul (h.tri c hc) (tri_mul F3 F3)
      · exact h.tri c hc
  · by_cases hm : l a = g ∨ l a = s
    · have hmb : l b = g ∨ l b = s := by
        refine Classical.byContradiction fun hn => ?_
        rw [inn a hm, (out b hn).2] at hl
        exact hn (Or.inr hl.symm)
      by_cases hz : A = 0
      · exact all0 hz b hmb
      · exfalso
        have n1 := np hz a ha hm
        rw [eW] at h0
        split at h0
        · rcases Int.mul_eq_zero.1 h0 with q | q
          · exact n1 q
          · exact hz q
        · rw [AA hz] at h0
          split at h0
          · rw [Int.mul_one] at h0; exact n1 h0
          · exact n1 h0
    · have hmb : ¬ (l b = g ∨ l b = s) := fun hn => by
        rw [inn b hn, (out a hm).2] at hl
        exact hm (Or.inr hl)
      rw [(out a hm).2, (out b hmb).2] at hl
      rw [(out a hm).1] at h0
      rw [(out b hmb).1]
      exact h.pin a b ha hb hl h0
  · by_cases hin : l c = g ∨ l c = s
    · rw [inn c hin]
      by_cases hz : A = 0
      · -- an odd way round
        have loop : Jn ((x, y, e) :: E) x x true := by
          rcases F7 hz with q | q | ⟨q, r⟩
          · exact old ((h.iff hx hx true).2 ⟨rfl, Or.inl q⟩)
          · have j := (ed.trans (old ((h.iff hy hy true).2 ⟨rfl, Or.inl q⟩))).trans ed.symm
            have : ((e != true) != e) = true := by cases e <;> rfl
            rwa [this] at j
          · have hl : l x = l y := by omega
            have hp : w x * w y = sg (!e) := by
              rcases tx with t1 | t1 | t1 <;> rcases ty with t2 | t2 | t2 <;> cases e <;> simp [t1, t2, sg] at r ⊢
            have j := (old ((h.iff hx hy (!e)).2 ⟨hl, Or.inr hp⟩)).trans ed.symm
            have : ((!e) != e) = true := by cases e <;> rfl
            rwa [this] at j
        have toX : ∀ d, d < N → l d = g ∨ l d = s → ∃ m, Jn ((x, y, e) :: E) d x m := fun d hd hm => by
          rcases hsg with ⟨p1, p2⟩ | ⟨p1, p2⟩ <;> rcases hm with r | r
          · obtain ⟨m, j⟩ := some2 d y hd hy (by omega)
            exact ⟨_, j.trans ed.symm⟩
          · exact some2 d x hd hx (by omega)
          · exact some2 d x hd hx (by omega)
          · obtain ⟨m, j⟩ := some2 d y hd hy (by omega)
            exact ⟨_, j.trans ed.symm⟩
        obtain ⟨m1, j1⟩ := toX c hc hin
        obtain ⟨m2, j2⟩ := toX s sN (Or.inr ls)
        have k1 := j1.trans j2.symm
        have k2 := (j1.trans loop).trans j2.symm
        by_cases hq : (m1 != m2) = m
        · rwa [hq] at k1
        · have : ((m1 != true) != m2) = m := by cases m1 <;> cases m2 <;> cases m <;> simp at hq ⊢
          rwa [this] at k2
      · have n1 := np hz c hc hin
        have hA6 := F6 hz
        obtain ⟨nx, ny⟩ := F5 hz
        by_cases hg : l c = g
        · by_cases hq : s = g
          · -- nothing new
            have hA1 : A = 1 := (F4 hq).resolve_right hz
            have e1 : w' c = w c := by rw [eW, if_pos hg, hA1, Int.mul_one]
            rw [e1] at hm
            have := h.snd c m hc hm
            rw [hg, ← hq] at this
            exact old this
          · have e1 : w' c = w c * A := by rw [eW, if_pos hg]
            rw [e1, hA6] at hm
            have cx := h.tri c hc
            rcases hsg with ⟨p1, p2⟩ | ⟨p1, p2⟩
            · -- c to y, to x, to s
              obtain ⟨a, ha⟩ : ∃ a, w c * w y = sg a := by
                rcases cx with q | q | q <;> rcases ty with r | r | r <;> first | exact absurd q n1 | exact absurd r ny | exact ⟨false, by rw [q, r]; rfl⟩ | exact ⟨true, by rw [q, r]; rfl⟩
              obtain ⟨b, hb⟩ : ∃ b, w x = sg b := by
                rcases tx with r | r | r
                · exact ⟨false, r⟩
                · exact ⟨true, r⟩
                · exact absurd r nx
              have j1 := old ((h.iff hc hy a).2 ⟨by omega, Or.inr ha⟩)
              have j2 := old (h.snd x b hx (Or.inr hb))
              rw [← p1] at j2
              have j := (j1.trans ed.symm).trans j2
              have hmm : ((a != e) != b) = m := by
                refine sg_inj ?_
                rw [sg_xor, sg_xor, ← ha, ← hb]
                rcases hm with q | q
                · exfalso
                  rcases cx with c1 | c1 | c1 <;> rcases tx with c2 | c2 | c2 <;> rcases ty with c3 | c3 | c3 <;> rcases sg_cases e with c4 | c4 <;> simp [c1, c2, c3, c4] at q n1 nx ny
                · rw [← q]
                  simp only [Int.mul_assoc, Int.mul_comm, Int.mul_left_comm]
              rwa [hmm] at j
            · obtain ⟨a, ha⟩ : ∃ a, w c * w x = sg a := by
                rcases cx with q | q | q <;> rcases tx with r | r | r <;> first | exact absurd q n1 | exact absurd r nx | exact ⟨false, by rw [q, r]; rfl⟩ | exact ⟨true, by rw [q, r]; rfl⟩
              obtain ⟨b, hb⟩ : ∃ b, w y = sg b := by
                rcases ty with r | r | r
                · exact ⟨false, r⟩
                · exact ⟨true, r⟩
                · exact absurd r ny
              have j1 := old ((h.iff hc hx a).2 ⟨by omega, Or.inr ha⟩)
              have j2 := old (h.snd y b hy (Or.inr hb))
              rw [← p1] at j2
              have j := (j1.trans ed).trans j2
              have hmm : ((a != e) != b) = m := by
                refine sg_inj ?_
                rw [sg_xor, sg_xor, ← ha, ← hb]
                rcases hm with q | q
                · exfalso
                  rcases cx with c1 | c1 | c1 <;> rcases tx with c2 | c2 | c2 <;> rcases ty with c3 | c3 | c3 <;> rcases sg_cases e with c4 | c4 <;> simp [c1, c2, c3, c4] at q n1 nx ny
                · rw [← q]
                  simp only [Int.mul_assoc, Int.mul_comm, Int.mul_left_comm]
              rwa [hmm] at j
        · have hS : l c = s := hin.resolve_left hg
          have e1 : w' c = w c := by rw [eW, if_neg hg, if_pos hS, AA hz, Int.mul_one]
          rw [e1] at hm
          have := h.snd c m hc hm
          rw [hS] at this
          exact old this
    · obtain ⟨o1, o2⟩ := out c hin
      rw [o1] at hm
      rw [o2]
      exact old (h.snd c m hc hm)
  · rcases List.mem_cons.1 hE with q | q
    · simp only [Prod.mk.injEq] at q
      obtain ⟨rfl, rfl, rfl⟩ := q
      refine ⟨hx, hy, by rw [inn a inx, inn b iny], ?_⟩
      by_cases hz : A = 0
      · exact Or.inl (all0 hz a inx)
      · right
        have hA6 := F6 hz
        obtain ⟨nx, ny⟩ := F5 hz
        rw [eW, eW, AA hz]
        by_cases hq : s = g
        · have hA1 : A = 1 := (F4 hq).resolve_right hz
          rw [hA1] at hA6
          rw [if_pos (show l a = g by omega), if_pos (show l b = g by omega), hA1]
          rcases tx with c2 | c2 | c2 <;> rcases ty with c3 | c3 | c3 <;> rcases sg_cases f with c4 | c4 <;> simp [c2, c3, c4] at hA6 nx ny ⊢
        · rcases hsg with ⟨p1, p2⟩ | ⟨p1, p2⟩
          · rw [if_neg (show ¬ l a = g by omega), if_pos (show l a = s by omega), if_pos (show l b = g by omega), hA6]
            rcases tx with c2 | c2 | c2 <;> rcases ty with c3 | c3 | c3 <;> rcases sg_cases f with c4 | c4 <;> simp [c2, c3, c4] at nx ny ⊢
          · rw [if_pos (show l a = g by omega), if_neg (show ¬ l b = g by omega), if_pos (show l b = s by omega), hA6]
            rcases tx with c2 | c2 | c2 <;> rcases ty with c3 | c3 | c3 <;> rcases sg_cases f with c4 | c4 <;> simp [c2, c3, c4] at nx ny ⊢
    · obtain ⟨ha, hb, h1, h2⟩ := h.cpl a b f q
      refine ⟨ha, hb, by rw [eL, eL, h1], ?_⟩
      by_cases hin : l a = g ∨ l a = s
      · by_cases hz : A = 0
        · exact Or.inl (all0 hz a hin)
        · right
          have h3 := h2.resolve_left (np hz a ha hin)
          rw [eW, eW, ← h1, AA hz]
          by_cases hg : l a = g
          · rw [if_pos hg, if_pos hg, ← h3]
            have : w a * A * (w b * A) = w a * w b * (A * A) := by simp only [Int.mul_assoc, Int.mul_left_comm, Int.mul_comm]
            rw [this, AA hz, Int.mul_one]
          · rw [if_neg hg, if_neg hg, if_pos (hin.resolve_left hg), if_pos (hin.resolve_left hg), Int.mul_one, Int.mul_one, h3]
      · rw [(out a hin).1, (out b (by rw [← h1]; exact hin)).1]
        exact h2
end Pl

/- Layer 3, plain: the classes of a group of signs. -/
namespace Pl

structure Grp (G : List (Nat × Bool)) : Prop where
  lt : ∀ g ∈ G, g.1 < 8
  one : (0, false) ∈ G
  mul : ∀ g ∈ G, ∀ h ∈ G, (cmp g.1 h.1, g.2 != h.2) ∈ G
  inv : ∀ g ∈ G, (inv g.1, g.2) ∈ G
/-- the pairs of cells that signs join -/
def edges (s : Nat) (G : List (Nat × Bool)) : List (Nat × Nat × Bool) := G.flatMap fun g => (List.range (s * s)).map fun x => (x, tk s g.1 x, g.2)
theorem mem_edges {s : Nat} {G : List (Nat × Bool)} {x y : Nat} {m : Bool} : (x, y, m) ∈ edges s G ↔ x < s * s ∧ ∃ t, (t, m) ∈ G ∧ tk s t x = y := by
  unfold edges
  rw [List.mem_flatMap]
  constructor
  · rintro ⟨g, hg, he⟩
    obtain ⟨z, hz, e⟩ := List.mem_map.1 he
    simp only [Prod.mk.injEq] at e
    obtain ⟨rfl, rfl, rfl⟩ := e
    exact ⟨List.mem_range.1 hz, g.1, hg, rfl⟩
  · rintro ⟨hx, t, ht, rfl⟩
    exact ⟨(t, m), ht, List.mem_map.2 ⟨x, List.mem_range.2 hx, rfl⟩⟩
/-- in a group, what is joined is joined by one sign -/
theorem Grp.jn {s : Nat} (hs : s ≤ 6) {G : List (Nat × Bool)} (h : Grp G) {x y : Nat} {m : Bool} (hx : x < s * s) : Jn (edges s G) x y m ↔ ∃ t, (t, m) ∈ G ∧ tk s t x = y := by
  constructor
  · intro j
    induction j with
    | refl => exact ⟨0, h.one, (act hs hx).1⟩
    | @fwd y z m e _ hE ih =>
      obtain ⟨t, ht, rfl⟩ := ih
      obtain ⟨_, u, hu, rfl⟩ := mem_edges.1 hE
      exact ⟨cmp t u, h.mul _ ht _ hu, tk_cmp hs hx (h.lt _ ht) (h.lt _ hu)⟩
    | @bwd y z m e _ hE ih =>
      obtain ⟨t, ht, rfl⟩ := ih
      obtain ⟨hz, u, hu, hy⟩ := mem_edges.1 hE
      refine ⟨cmp t (Pl.inv u), h.mul _ ht _ (h.inv _ hu), ?_⟩
      rw [tk_cmp hs hx (h.lt _ ht) (inv_lt (h.lt _ hu)), ← hy, tk_inv hs hz (h.lt _ hu)]
  · rintro ⟨t, ht, rfl⟩
    exact Jn.edge (mem_edges.2 ⟨hx, t, ht, rfl⟩)
theorem Uf.congr {N : Nat} {E F : List (Nat × Nat × Bool)} {l : Nat → Nat} {w : Nat → Int} (h : Uf N E l w) (hE : ∀ e, e ∈ E ↔ e ∈ F) : Uf N F l w :=
  ⟨h.le, h.id, h.rt, h.tri, h.pin, fun c m hc hm => (h.snd c m hc hm).mono fun e he => (hE e).1 he, fun x y e he => h.cpl x y e ((hE _).2 he)⟩
theorem Uf.ext {N : Nat} {E : List (Nat × Nat × Bool)} {l l' : Nat → Nat} {w w' : Nat → Int} (h : Uf N E l w) (h1 : ∀ c, c < N → l' c = l c) (h2 : ∀ c, c < N → w' c = w c) : Uf N E l' w' := by
  have lt : ∀ c, c < N → l c < N := fun c hc => Nat.lt_of_le_of_lt (h.le c hc) hc
  refine ⟨fun c hc => ?_, fun c hc => ?_, fun c hc => ?_, fun c hc => ?_, fun x y hx hy => ?_, fun c m hc => ?_, fun x y e he => ?_⟩
  · rw [h1 c hc]; exact h.le c hc
  · rw [h1 c hc, h1 _ (lt c hc)]; exact h.id c hc
  · rw [h1 c hc, h2 _ (lt c hc)]; exact h.rt c hc
  · rw [h2 c hc]; exact h.tri c hc
  · rw [h1 x hx, h1 y hy, h2 x hx, h2 y hy]; exact h.pin x y hx hy
  · rw [h1 c hc, h2 c hc]; exact h.snd c m hc
  · obtain ⟨a, b, c, d⟩ := h.cpl x y e he
    rw [h1 x a, h1 y b, h2 x a, h2 y b]
    exact ⟨a, b, c, d⟩
/-- what the specification says of the classes of a group -/
structure Cls (s : Nat) (G : List (Nat × Bool)) (l : Nat → Nat) (w : Nat → Int) (x : Nat) : Prop where
  at_ : ∃ g ∈ G, tk s g.1 x = l x
  min : ∀ g ∈ G, l x ≤ tk s g.1 x
  pin : w x = 0 ↔ ∃ g ∈ G, g.2 = true ∧ tk s g.1 x = x
  one : w x ≠ 0 → (w x = 1 ↔ ∃ g ∈ G, g.2 = false ∧ tk s g.1 (l x) = x)
  two : w x ≠ 0 → w x ≠ 1 → w x = -1
theorem Grp.cls {s : Nat} (hs : s ≤ 6) {G : List (Nat × Bool)} (h : Grp G) {l : Nat → Nat} {w : Nat → Int} (hu : Uf (s * s) (edges s G) l w) {x : Nat} (hx : x < s * s) : Cls s G l w x := by
  have lt : l x < s * s := Nat.lt_of_le_of_lt (hu.le x hx) hx
  have tri := hu.tri x hx
  refine ⟨?_, fun g hg => ?_, ?_, fun h0 => ?_, fun h0 h1 => ?_⟩
  · obtain ⟨m, j⟩ : ∃ m, Jn (edges s G) x (l x) m := by
      rcases tri with q | q | q
      · exact ⟨false, hu.snd x false hx (Or.inr q)⟩
      · exact ⟨true, hu.snd x true hx (Or.inr q)⟩
      · exact ⟨false, hu.snd x false hx (Or.inl q)⟩
    obtain ⟨t, ht, e⟩ := (h.jn hs hx).1 j
    exact ⟨_, ht, e⟩
  · have j := (h.jn hs hx (y := tk s g.1 x) (m := g.2)).2 ⟨g.1, hg, rfl⟩
    have hy := tk_lt hs hx (h.lt g hg)
    have e := ((hu.iff hx hy g.2).1 j).1
    rw [e]
    exact hu.le _ hy
  · have key := (hu.iff hx hx true).symm.trans (h.jn hs hx)
    have e : (l x = l x ∧ (w x = 0 ∨ w x * w x = sg true)) ↔ w x = 0 := by
      constructor
      · rintro ⟨_, q | q⟩
        · exact q
        · rcases tri with r | r | r
          · rw [r] at q; simp [sg] at q
          · rw [r] at q; simp [sg] at q
          · exact r
      · exact fun q => ⟨rfl, Or.inl q⟩
    rw [e] at key
    rw [key]
    constructor
    · rintro ⟨t, ht, q⟩; exact ⟨_, ht, rfl, q⟩
    · rintro ⟨⟨t, m⟩, ht, q, r⟩
      simp only at q
      subst q
      exact ⟨t, ht, r⟩
  · have l1 : w (l x) ≠ 0 := fun q => h0 (hu.pin (l x) x lt hx (hu.id x hx) q)
    have r1 : w (l x) = 1 := (hu.rt x hx).resolve_right l1
    have key := (hu.iff lt hx false).symm.trans (h.jn hs lt)
    have e : (l (l x) = l x ∧ (w (l x) = 0 ∨ w (l x) * w x = sg false)) ↔ w x = 1 := by
      rw [r1, Int.one_mul]
      constructor
      · rintro ⟨_, q | q⟩
        · cases q
        · exact q
      · exact fun q => ⟨hu.id x hx, Or.inr q⟩
    rw [e] at key
    rw [key]
    constructor
    · rintro ⟨t, ht, q⟩; exact ⟨_, ht, rfl, q⟩
    · rintro ⟨⟨t, m⟩, ht, q, r⟩
      simp only at q
      subst q
      exact ⟨t, ht, r⟩
  · rcases tri with q | q | q
    · exact absurd q h1
    · exact q
    · exact absurd q h0
/-- all edges united, one behind the other -/
def unAll : List (Nat × Nat × Bool) → (Nat → Nat) × (Nat → Int) → (Nat → Nat) × (Nat → Int)
  | [], q => q
  | e :: r, q => unAll r (unL q.1 e.1 e.2.1, unW q.1 q.2 e.1 e.2.1 e.2.2)
theorem uf_all {N : Nat} : ∀ (F E : List (Nat × Nat × Bool)) (q : (Nat → Nat) × (Nat → Int)), Uf N E q.1 q.2 → (∀ e ∈ F, e.1 < N ∧ e.2.1 < N) → Uf N (F ++ E) (unAll F q).1 (unAll F q).2
  | [], E, q, h, _ => h
  | e :: r, E, q, h, hF => by
    have he := hF e List.mem_cons_self
    have := uf_all r (e :: E) (unL q.1 e.1 e.2.1, unW q.1 q.2 e.1 e.2.1 e.2.2) (h.unite he.1 he.2 e.2.2) (fun x hx => hF x (List.mem_cons_of_mem _ hx))
    refine this.congr fun x => ?_
    simp only [List.mem_append, List.mem_cons]
    constructor
    · rintro (a | rfl | a)
      · exact Or.inl (Or.inr a)
      · exact Or.inl (Or.inl rfl)
      · exact Or.inr a
    · rintro ((rfl | a) | a)
      · exact Or.inr (Or.inl rfl)
      · exact Or.inl a
      · exact Or.inr (Or.inr a)
theorem uf_signs {s : Nat} (hs : s ≤ 6) {G : List (Nat × Bool)} (hG : ∀ g ∈ G, g.1 < 8) : Uf (s * s) (edges s G) (unAll (edges s G) (fun c => c, fun _ => 1)).1 (unAll (edges s G) (fun c => c, fun _ => 1)).2 := by
  have := uf_all (edges s G) [] (fun c => c, fun _ => 1) (uf_start (s * s)) (fun e he => by
    obtain ⟨x, y, m⟩ := e
    obtain ⟨hx, t, ht, rfl⟩ := mem_edges.1 he
    exact ⟨hx, tk_lt hs hx (hG _ ht)⟩)
  rwa [List.append_nil] at this
end Pl

/- Layer 3, plain: shops, walks through their workings, and the group of the signs of a plate. -/
namespace Pl

structure Wk where
  a : Int
  b : Int
  t : Int
def noW : Wk := ⟨0, 0, 0⟩
def okW (m : Int) (w : Wk) : Bool := decide (0 ≤ w.a ∧ w.a < m ∧ 0 ≤ w.b ∧ w.b < m ∧ w.a ≠ w.b ∧ 0 ≤ w.t ∧ w.t < 8)
/-- Check -/
def chk (side m : Int) (W : List Wk) : Int := if side < 1 ∨ 6 < side ∨ m < 1 ∨ 6 < m then 1 else if 16 < W.length then 2 else if W.all (okW m) then 0 else 1
def Ok (m : Int) (W : List Wk) : Prop := ∀ i, i < W.length → okW m (W.getD i noW) = true
theorem chk_ok {side m : Int} {W : List Wk} (h : chk side m W = 0) : (1 ≤ side ∧ side ≤ 6) ∧ (1 ≤ m ∧ m ≤ 6) ∧ W.length ≤ 16 ∧ Ok m W := by
  unfold chk at h
  split at h
  · cases h
  · split at h
    · cases h
    · split at h
      · rename_i h1 h2 h3
        refine ⟨by omega, by omega, by omega, fun i hi => ?_⟩
        rw [List.getD, List.getElem?_eq_getElem hi]
        exact List.all_eq_true.1 h3 _ (List.getElem_mem hi)
      · cases h
theorem okW_spec {m : Int} {w : Wk} (h : okW m w = true) : 0 ≤ w.a ∧ w.a < m ∧ 0 ≤ w.b ∧ w.b < m ∧ w.a ≠ w.b ∧ 0 ≤ w.t ∧ w.t < 8 := of_decide_eq_true h

/-- a plate, and the sign of a walk to it -/
structure St where
  p : Int
  t : Nat
  m : Bool
deriving DecidableEq
/-- the state behind a step -/
def adv (W : List Wk) (s : St) (k : Int) : Option St :=
  if k < 0 then if (W.getD (-1 - k).toNat noW).b = s.p then some ⟨(W.getD (-1 - k).toNat noW).a, cmp s.t (inv (W.getD (-1 - k).toNat noW).t.toNat), !s.m⟩ else none
  else if (W.getD k.toNat noW).a = s.p then some ⟨(W.getD k.toNat noW).b, cmp s.t (W.getD k.toNat noW).t.toNat, !s.m⟩ else none
def stps (n : Nat) : List Int := (List.range (2 * n)).map fun k : Nat => (k : Int) - n
theorem mem_stps {n : Nat} {k : Int} : k ∈ stps n ↔ -(n : Int) ≤ k ∧ k < n := by
  unfold stps
  rw [List.mem_map]
  constructor
  · rintro ⟨a, ha, rfl⟩
    have := List.mem_range.1 ha
    omega
  · intro h
    exact ⟨(k + n).toNat, List.mem_range.2 (by omega), by omega⟩
theorem adv_in {m : Int} {W : List Wk} (hW : Ok m W) {s y : St} {k : Int} (hk : k ∈ stps W.length) (hs : s.t < 8) (h : adv W s k = some y) : (0 ≤ y.p ∧ y.p < m) ∧ y.t < 8 := by
  have hk' := mem_stps.1 hk
  unfold adv at h
  split at h
  · have ok := okW_spec (hW (-1 - k).toNat (by omega))
    split at h
    · simp only [Option.some.injEq] at h
      subst h
      exact ⟨⟨ok.1, ok.2.1⟩, cmp_lt hs (inv_lt (by omega))⟩
    · cases h
  · have ok := okW_spec (hW k.toNat (by omega))
    split at h
    · simp only [Option.some.injEq] at h
      subst h
      exact ⟨⟨ok.2.2.1, ok.2.2.2.1⟩, cmp_lt hs (by omega)⟩
    · cases h
theorem adv_back {m : Int} {W : List Wk} (hW : Ok m W) {s y : St} {k : Int} (hk : k ∈ stps W.length) (hs : s.t < 8) (h : adv W s k = some y) : adv W y (-1 - k) = some s ∧ -1 - k ∈ stps W.length := by
  have hk' := mem_stps.1 hk
  refine ⟨?_, mem_stps.2 (by omega)⟩
  unfold adv at h
  split at h
  · rename_i h0
    have ok := okW_spec (hW (-1 - k).toNat (by omega))
    have ht : (W.getD (-1 - k).toNat noW).t.toNat < 8 := by omega
    split at h
    · rename_i hb
      simp only [Option.some.injEq] at h
      subst h
      unfold adv
      rw [if_neg (by omega), if_pos rfl]
      obtain ⟨p, t, m⟩ := s
      simp only at hb hs ⊢
      rw [hb, cmp_assoc hs (inv_lt ht) ht, (gp ht).inv', (gp hs).one, Bool.not_not]
    · cases h
  · rename_i h0
    have ok := okW_spec (hW k.toNat (by omega))
    have ht : (W.getD k.toNat noW).t.toNat < 8 := by omega
    split at h
    · rename_i hb
      simp only [Option.some.injEq] at h
      subst h
      unfold adv
      have e : -1 - (-1 - k) = k := by omega
      rw [if_pos (by omega), e, if_pos rfl]
      obtain ⟨p, t, m⟩ := s
      simp only at hb hs ⊢
      rw [hb, cmp_assoc hs ht (inv_lt ht), (gp ht).inv, (gp hs).one, Bool.not_not]
    · cases h
theorem runs_in {m : Int} {W : List Wk} (hW : Ok m W) : ∀ (w : List Int) (s y : St), (∀ k ∈ w, k ∈ stps W.length) → s.t < 8 → runs (adv W) s w = some y → y.t < 8 ∧ (0 ≤ s.p ∧ s.p < m → 0 ≤ y.p ∧ y.p < m)
  | [], s, y, _, hs, h => by
    simp only [runs, Option.some.injEq] at h
    subst h
    exact ⟨hs, id⟩
  | k :: r, s, y, hw, hs, h => by
    rw [runs] at h
    cases ha : adv W s k with
    | none => rw [ha] at h; cases h
    | some z =>
      rw [ha] at h
      have hz := adv_in hW (hw k List.mem_cons_self) hs ha
      have := runs_in hW r z y (fun x hx => hw x (List.mem_cons_of_mem _ hx)) hz.2 h
      exact ⟨this.1, fun _ => this.2 hz.1⟩
/-- a walk back -/
theorem runs_back {m : Int} {W : List Wk} (hW : Ok m W) : ∀ (w : List Int) (s y : St), (∀ k ∈ w, k ∈ stps W.length) → s.t < 8 → runs (adv W) s w = some y → ∃ v : List Int, (∀ k ∈ v, k ∈ stps W.length) ∧ runs (adv W) y v = some s
  | [], s, y, _, _, h => by
    simp only [runs, Option.some.injEq] at h
    subst h
    exact ⟨[], fun k hk => (List.not_mem_nil hk).elim, rfl⟩
  | k :: r, s, y, hw, hs, h => by
    rw [runs] at h
    cases ha : adv W s k with
    | none => rw [ha] at h; cases h
    | some z =>
      rw [ha] at h
      have hk := hw k List.mem_cons_self
      have hz := adv_in hW hk hs ha
      obtain ⟨v, h1, h2⟩ := runs_back hW r z y (fun x hx => hw x (List.mem_cons_of_mem _ hx)) hz.2 h
      obtain ⟨b1, b2⟩ := adv_back hW hk hs ha
      refine ⟨v ++ [-1 - k], fun x hx => ?_, by rw [runs_snoc, h2]; exact b1⟩
      rcases List.mem_append.1 hx with hx | hx
      · exact h1 x hx
      · simp only [List.mem_singleton] at hx
        subst hx
        exact b2
/-- a sign ahead of all -/
def mv (u : Nat) (e : Bool) (s : St) : St := ⟨s.p, cmp u s.t, e != s.m⟩
theorem adv_mv {m : Int} {W : List Wk} (hW : Ok m W) {u : Nat} (hu : u < 8) (e : Bool) {s : St} {k : Int} (hk : k ∈ stps W.length) (hs : s.t < 8) : adv W (mv u e s) k = (adv W s k).map (mv u e) := by
  have hk' := mem_stps.1 hk
  have hb : ∀ a b : Bool, (a != !b) = !(a != b) := by decide
  unfold adv mv
  simp only
  split
  · have ok := okW_spec (hW (-1 - k).toNat (by omega))
    split
    · rw [Option.map_some, hb, cmp_assoc hu hs (inv_lt (by omega))]
    · rfl
  · have ok := okW_spec (hW k.toNat (by omega))
    split
    · rw [Option.map_some, hb, cmp_assoc hu hs (by omega)]
    · rfl
theorem runs_mv {m : Int} {W : List Wk} (hW : Ok m W) {u : Nat} (hu : u < 8) (e : Bool) : ∀ (w : List Int) (s : St), (∀ k ∈ w, k ∈ stps W.length) → s.t < 8 → runs (adv W) (mv u e s) w = (runs (adv W) s w).map (mv u e)
  | [], s, _, _ => rfl
  | k :: r, s, hw, hs => by
    have hk := hw k List.mem_cons_self
    rw [runs, runs, adv_mv hW hu e hk hs]
    cases ha : adv W s k with
    | none => rfl
    | some z => exact runs_mv hW hu e r z (fun x hx => hw x (List.mem_cons_of_mem _ hx)) (adv_in hW hk hs ha).2
def start (p : Int) : St := ⟨p, 0, false⟩
/-- the sign of a closed walk -/
def Clo (W : List Wk) (p : Int) (t : Nat) (m : Bool) : Prop := ∃ w : List Int, (∀ k ∈ w, k ∈ stps W.length) ∧ runs (adv W) (start p) w = some ⟨p, t, m⟩
theorem mv_start {t : Nat} (ht : t < 8) (m : Bool) (p : Int) : mv t m (start p) = ⟨p, t, m⟩ := by
  unfold mv start
  simp only [Bool.bne_false]
  rw [(gp ht).one]
theorem Clo.lt {m : Int} {W : List Wk} (hW : Ok m W) {p : Int} {t : Nat} {e : Bool} (h : Clo W p t e) : t < 8 := by
  obtain ⟨w, h1, h2⟩ := h
  exact (runs_in hW w _ _ h1 (by unfold start; simp only; omega) h2).1
theorem clo_one (W : List Wk) (p : Int) : Clo W p 0 false := ⟨[], fun k hk => (List.not_mem_nil hk).elim, rfl⟩
theorem Clo.mul {m : Int} {W : List Wk} (hW : Ok m W) {p : Int} {t u : Nat} {e f : Bool} (h : Clo W p t e) (g : Clo W p u f) : Clo W p (cmp t u) (e != f) := by
  have ht := h.lt hW
  obtain ⟨w, h1, h2⟩ := h
  obtain ⟨v, g1, g2⟩ := g
  refine ⟨w ++ v, fun k hk => ?_, ?_⟩
  · rcases List.mem_append.1 hk with hk | hk
    · exact h1 k hk
    · exact g1 k hk
  · rw [runs_append, h2]
    show runs (adv W) ⟨p, t, e⟩ v = _
    rw [← mv_start ht e p, runs_mv hW ht e v _ g1 (by unfold start; simp only; omega), g2]
    rfl
theorem Clo.inv {m : Int} {W : List Wk} (hW : Ok m W) {p : Int} {t : Nat} {e : Bool} (h : Clo W p t e) : Clo W p (Pl.inv t) e := by
  have ht := h.lt hW
  obtain ⟨w, h1, h2⟩ := h
  obtain ⟨v, g1, g2⟩ := runs_back hW w _ _ h1 (by unfold start; simp only; omega) h2
  refine ⟨v, g1, ?_⟩
  have k := runs_mv hW (inv_lt ht) e v ⟨p, t, e⟩ g1 ht
  rw [g2] at k
  have e1 : mv (Pl.inv t) e ⟨p, t, e⟩ = start p := by
    unfold mv start
    simp only
    rw [(gp ht).inv']
    cases e <;> rfl
  rw [e1] at k
  rw [k, Option.map_some, mv_start (inv_lt ht)]
/-- all states of a plate -/
def ways (W : List Wk) (p : Int) : List (St × List Int) := bfs (adv W) (stps W.length) 97 0 [(start p, [])]
def univ (m : Int) : List St := (List.range m.toNat).flatMap fun p : Nat => (List.range 8).flatMap fun t => [⟨(p : Int), t, false⟩, ⟨(p : Int), t, true⟩]
theorem mem_univ {m : Int} {s : St} (h : (0 ≤ s.p ∧ s.p < m) ∧ s.t < 8) : s ∈ univ m := by
  unfold univ
  rw [List.mem_flatMap]
  refine ⟨s.p.toNat, List.mem_range.2 (by omega), List.mem_flatMap.2 ⟨s.t, List.mem_range.2 h.2, ?_⟩⟩
  obtain ⟨p, t, m⟩ := s
  have e : ((p.toNat : Nat) : Int) = p := by simp only at h; omega
  cases m <;> simp [e]
theorem univ_len {m : Int} (h : m ≤ 6) : (univ m).length ≤ 96 := by
  have : m.toNat ≤ 6 := by omega
  unfold univ
  generalize m.toNat = k at this
  have : k = 0 ∨ k = 1 ∨ k = 2 ∨ k = 3 ∨ k = 4 ∨ k = 5 ∨ k = 6 := by omega
  rcases this with rfl | rfl | rfl | rfl | rfl | rfl | rfl <;> decide
theorem ways_ok {m : Int} {W : List Wk} (hm : m ≤ 6) (hW : Ok m W) {p : Int} (hp : 0 ≤ p ∧ p < m) : Bf (adv W) (stps W.length) (start p) (ways W p).length (ways W p) := by
  have hs : (start p).t < 8 := by unfold start; simp only; omega
  refine bfs_ends (U := univ m) (fun w y hw hr => ?_) 97 0 _ (bf_start _ _ _) (by have := univ_len hm; omega)
  have := runs_in hW w _ _ hw hs hr
  exact mem_univ ⟨this.2 hp, this.1⟩
/-- a state is in the list exactly if a walk leads to it -/
theorem ways_iff {m : Int} {W : List Wk} (hm : m ≤ 6) (hW : Ok m W) {p : Int} (hp : 0 ≤ p ∧ p < m) (s : St) : s ∈ (ways W p).map Prod.fst ↔ ∃ w : List Int, (∀ k ∈ w, k ∈ stps W.length) ∧ runs (adv W) (start p) w = some s := by
  have h := ways_ok hm hW hp
  constructor
  · intro hs
    obtain ⟨e, he, rfl⟩ := List.mem_map.1 hs
    exact ⟨e.2, (h.run e he).2, (h.run e he).1⟩
  · rintro ⟨w, h1, h2⟩
    obtain ⟨v, h3, _⟩ := bfs_all h w.length w s rfl h1 h2
    exact List.mem_map.2 ⟨_, h3, rfl⟩
/-- the sixteen signs in their order -/
def all16 : List (Nat × Bool) := (List.range 8).flatMap fun t => [(t, false), (t, true)]
theorem mem_all16 {t : Nat} {m : Bool} : (t, m) ∈ all16 ↔ t < 8 := by
  unfold all16
  rw [List.mem_flatMap]
  constructor
  · rintro ⟨u, hu, h⟩
    have := List.mem_range.1 hu
    simp only [List.mem_cons, Prod.mk.injEq, List.not_mem_nil, or_false] at h
    omega
  · intro h
    exact ⟨t, List.mem_range.2 h, by cases m <;> simp⟩
/-- Signs -/
def signs (W : List Wk) (p : Int) : List (Nat × Bool) := all16.filter fun g => decide (⟨p, g.1, g.2⟩ ∈ (ways W p).map Prod.fst)
theorem mem_signs {m : Int} {W : List Wk} (hm : m ≤ 6) (hW : Ok m W) {p : Int} (hp : 0 ≤ p ∧ p < m) {t : Nat} {e : Bool} : (t, e) ∈ signs W p ↔ Clo W p t e := by
  unfold signs
  rw [List.mem_filter, decide_eq_true_eq, ways_iff hm hW hp, mem_all16]
  exact ⟨fun h => h.2, fun h => ⟨Clo.lt hW h, h⟩⟩
/-- the signs of a plate are a group -/
theorem signs_grp {m : Int} {W : List Wk} (hm : m ≤ 6) (hW : Ok m W) {p : Int} (hp : 0 ≤ p ∧ p < m) : Grp (signs W p) := by
  refine ⟨fun g hg => ?_, (mem_signs hm hW hp).2 (clo_one W p), fun g hg h hh => ?_, fun g hg => ?_⟩
  · exact Clo.lt hW ((mem_signs hm hW hp (t := g.1) (e := g.2)).1 hg)
  · exact (mem_signs hm hW hp).2 (((mem_signs hm hW hp (t := g.1) (e := g.2)).1 hg).mul hW ((mem_signs hm hW hp (t := h.1) (e := h.2)).1 hh))
  · exact (mem_signs hm hW hp).2 (((mem_signs hm hW hp (t := g.1) (e := g.2)).1 hg).inv hW)
end Pl

/- Contracts of package plate: Check. -/
namespace Go.Proofs.YtmkjmpkicmadcaaDoor
open Go.RowKit

/-- a working that lies at an address -/
def WkAt (w : World) (p : Addr) (l : Pl.Wk) : Prop := w.cell? p = some (.int .i64 l.a) ∧ w.cell? ⟨p.block, p.off + 1, none⟩ = some (.int .i64 l.b) ∧ w.cell? ⟨p.block, p.off + 2, none⟩ = some (.int .i64 l.t)
theorem WkAt.below {w W : World} {p : Addr} {l : Pl.Wk} (h : WkAt w p l) (hb : Below w.heap.size w W) : WkAt W p l := ⟨kept1 h.1 hb, kept1 h.2.1 hb, kept1 h.2.2 hb⟩
/-- workings that lie in a row -/
def WksAt (w : World) (a : Option Addr) (L : List Pl.Wk) : Prop := ∀ k, k < L.length → ∃ x, a = some x ∧ WkAt w (x.add (k * 3)) (L.getD k Pl.noW)
theorem WksAt.below {w W : World} {a : Option Addr} {L : List Pl.Wk} (h : WksAt w a L) (hb : Below w.heap.size w W) : WksAt W a L := fun k hk => by
  obtain ⟨x, hx, h1⟩ := h k hk
  exact ⟨x, hx, h1.below hb⟩
/-- a shop, as a value -/
def shV (s m : Int) (a : Option Addr) (q cap : Nat) : Value := .agg #[.int .i64 s, .int .i64 m, .slice a q cap]

theorem okW_ix {m f t mo : Int} : Pl.okW m ⟨f, t, mo⟩ = (Pl.ix f m && (Pl.ix t m && (!(f == t) && Pl.ix mo 8))) := by
  rw [Bool.eq_iff_iff]
  unfold Pl.okW Pl.ix
  simp only [Bool.and_eq_true, decide_eq_true_eq, Bool.not_eq_true', beq_eq_false_iff_ne]
  omega
theorem all_step {m : Int} {W : List Pl.Wk} {k : Nat} (h : k < W.length) : (W.drop k).all (Pl.okW m) = (Pl.okW m (W.getD k Pl.noW) && (W.drop (k + 1)).all (Pl.okW m)) := by
  rw [List.drop_eq_getElem_cons h, List.all_cons, List.getD, List.getElem?_eq_getElem h]
  rfl

set_option maxRecDepth 100000 in
set_option maxHeartbeats 4000000 in
theorem pCheck_loop (s m : Int) (a : Option Addr) (cap : Nat) (L : List Pl.Wk) (q : Nat) (hq : Hid (L.length = q)) (h0 : Pl.sd s = true) (h1 : ¬ m < 1) (h2 : ¬ 6 < m) (h3 : ¬ (16 : Int) < (q : Int)) (w : World) (hL : Hid (WksAt w a L)) :
    Calls Tryd.prog 56 #[.agg #[.int .i64 s, .int .i64 m, .slice a q cap]] w fun e w' => e = .returned (.int .i64 (if L.all (Pl.okW m) then 0 else 1)) ∧ Below w.heap.size w w' := by
  obtain ⟨r, hr⟩ : ∃ r, L.all (Pl.okW m) = r := ⟨_, rfl⟩
  rw [hr]
  have hr0 : Hid (r = (L.drop 0).all (Pl.okW m)) := Lib.hid (by rw [List.drop_zero]; exact hr.symm)
  have hq3 : q ≤ 16 := by omega
  have HS := pSide_any s
  rw [h0] at HS
  replace HS := Lib.hid HS
  clear hr h0
  go_enter Tryd.func56, Tryd.ntmps56
  go_wp2_with fail
  refine (HS.out _).mono ?_
  rintro e w1 ⟨rfl, hw1⟩
  have k0 : w1.cell? ⟨w.heap.size, 0, none⟩ = some (.int .i64 s) := by rw [hw1]; simp [go_sem]
  have k1 : w1.cell? ⟨w.heap.size, 1, none⟩ = some (.int .i64 m) := by rw [hw1]; simp [go_sem]
  have k2 : w1.cell? ⟨w.heap.size, 2, none⟩ = some (.slice a q cap) := by rw [hw1]; simp [go_sem]
  have hbw : Below w.heap.size w w1 := by rw [hw1]; exact below_alloc (Below.refl _ _) _
  clear hw1 k0 HS
  go_wp2
  go_loopw [26] (fun i wr => ∃ k : Nat, k ≤ q ∧ i = .int .i64 k ∧ wr.cell? ⟨w.heap.size, 1, none⟩ = some (.int .i64 m) ∧ Below w.heap.size w wr ∧ w.heap.size < wr.heap.size ∧ Hid (r = (L.drop k).all (Pl.okW m))) (fun i _ => q - (RowKit.intOf i).toNat)
  case atStart => exact ⟨0, Nat.zero_le _, rfl, k1, hbw, block_lt_of_cell k1, hr0⟩
  case round =>
    clear hr0 hbw k1 k2
    obtain ⟨k, hk, rfl, hn, hb, hsz, hbad⟩ := hrel
    by_cases hlt : k < q
    · obtain ⟨f, t, mo, hl⟩ : ∃ f t mo, L.getD k Pl.noW = ⟨f, t, mo⟩ := ⟨_, _, _, rfl⟩
      have hkL : k < L.length := by have := hq.out; omega
      obtain ⟨x, rfl, hl3⟩ := hL.out k hkL
      have ⟨hc0, hc1, hc2⟩ := hl3.below hb
      have hst := all_step (m := m) hkL
      rw [hl] at hc0 hc1 hc2 hst
      simp only at hc0 hc1 hc2
      clear hl3 hl
      have hi5 : (k : Int) < (q : Int) := by omega
      have H1 := pIndex_any f m
      have H2 := pIndex_any t m
      have H3 := pTurn_any mo
      rw [okW_ix] at hst
      have hsz2 : w.heap.size < wr.heap.size := hsz
      cases e1 : Pl.ix f m
      · rw [e1] at H1 hst
        have hb9 : r = false := by rw [hbad.out, hst]; rfl
        subst hb9
        clear hbad hst H2 H3
        replace H1 := Lib.hid H1
        go_wp2_with fail
        refine (H1.out _).mono ?_
        rintro e w2 ⟨rfl, hw2⟩
        subst hw2
        go_wp2
        go_ret
        exact ⟨rfl, (by repeat (first | with_reducible exact Below.refl _ _ | with_reducible assumption | refine below_drewN ?_ _ | refine Below.drew ?_ | refine Below.alloc ?_ (by first | (simp; done) | (simp; omega) | omega) _ | refine Below.setCell ?_ (by first | (simp; done) | (simp; omega) | omega) _ | refine Below.trans ?_ (Below.mono (by assumption) (by first | (simp; done) | (simp; omega) | omega))))⟩
      · rw [e1] at H1 hst
        cases e2 : Pl.ix t m
        · rw [e2] at H2 hst
          have hb9 : r = false := by rw [hbad.out, hst]; rfl
          subst hb9
          clear hbad hst H3
          replace H1 := Lib.hid H1
          replace H2 := Lib.hid H2
          go_wp2_with fail
          refine (H1.out _).mono ?_
          rintro e w2 ⟨rfl, hw2⟩
          subst hw2
          go_wp2_with fail
          refine (H2.out _).mono ?_
          rintro e w2 ⟨rfl, hw2⟩
          subst hw2
          go_wp2
          go_ret
          exact ⟨rfl, (by repeat (first | with_reducible exact Below.refl _ _ | with_reducible assumption | refine below_drewN ?_ _ | refine Below.drew ?_ | refine Below.alloc ?_ (by first | (simp; done) | (simp; omega) | omega) _ | refine Below.setCell ?_ (by first | (simp; done) | (simp; omega) | omega) _ | refine Below.trans ?_ (Below.mono (by assumption) (by first | (simp; done) | (simp; omega) | omega))))⟩
        · rw [e2] at H2 hst
          cases e3 : (f == t)
          · rw [e3] at hst
            cases e4 : Pl.ix mo 8
            · rw [e4] at H3 hst
              have hb9 : r = false := by rw [hbad.out, hst]; rfl
              subst hb9
              clear hbad hst
              replace H1 := Lib.hid H1
              replace H2 := Lib.hid H2
              replace H3 := Lib.hid H3
              go_wp2_with fail
              refine (H1.out _).mono ?_
              rintro e w2 ⟨rfl, hw2⟩
              subst hw2
              go_wp2_with fail
              refine (H2.out _).mono ?_
              rintro e w2 ⟨rfl, hw2⟩
              subst hw2
              go_wp2_with fail
              refine (H3.out _).mono ?_
              rintro e w2 ⟨rfl, hw2⟩
              subst hw2
              go_wp2
              go_ret
              exact ⟨rfl, (by repeat (first | with_reducible exact Below.refl _ _ | with_reducible assumption | refine below_drewN ?_ _ | refine Below.drew ?_ | refine Below.alloc ?_ (by first | (simp; done) | (simp; omega) | omega) _ | refine Below.setCell ?_ (by first | (simp; done) | (simp; omega) | omega) _ | refine Below.trans ?_ (Below.mono (by assumption) (by first | (simp; done) | (simp; omega) | omega))))⟩
            · rw [e4] at H3 hst
              have hb9 : Hid (r = (L.drop (k + 1)).all (Pl.okW m)) := Lib.hid (by rw [hbad.out, hst]; rfl)
              clear hbad hst
              replace H1 := Lib.hid H1
              replace H2 := Lib.hid H2
              replace H3 := Lib.hid H3
              have hnA := cell_alloc hn (Obj.cells #[.int .i64 f, .int .i64 t, .int .i64 mo] 69)
              have hbA := below_alloc hb (Obj.cells #[.int .i64 f, .int .i64 t, .int .i64 mo] 69)
              go_wp2_with fail
              refine (H1.out _).mono ?_
              rintro e w2 ⟨rfl, hw2⟩
              subst hw2
              go_wp2_with fail
              refine (H2.out _).mono ?_
              rintro e w2 ⟨rfl, hw2⟩
              subst hw2
              go_wp2_with fail
              refine (H3.out _).mono ?_
              rintro e w2 ⟨rfl, hw2⟩
              subst hw2
              go_wp2
              go_roundw
              case rel => exact ⟨k + 1, by omega, by go_num, hnA, hbA, block_lt_of_cell hnA, hb9⟩
              case measure => first | (simp [RowKit.intOf]; done) | (simp [RowKit.intOf]; omega) | omega
          · rw [e3] at hst
            have hb9 : r = false := by rw [hbad.out, hst]; rfl
            subst hb9
            have hft : f = t := by simpa using e3
            subst hft
            clear hbad hst e2 e3
            replace H1 := Lib.hid H1
            go_wp2_with fail
            refine (H1.out _).mono ?_
            rintro e w2 ⟨rfl, hw2⟩
            subst hw2
            go_wp2_with fail
            refine (H1.out _).mono ?_
            rintro e w2 ⟨rfl, hw2⟩
            subst hw2
            go_wp2
            go_ret
            exact ⟨rfl, (by repeat (first | with_reducible exact Below.refl _ _ | with_reducible assumption | refine below_drewN ?_ _ | refine Below.drew ?_ | refine Below.alloc ?_ (by first | (simp; done) | (simp; omega) | omega) _ | refine Below.setCell ?_ (by first | (simp; done) | (simp; omega) | omega) _ | refine Below.trans ?_ (Below.mono (by assumption) (by first | (simp; done) | (simp; omega) | omega))))⟩
    · obtain rfl : k = q := by omega
      have hi5 : ¬ (k : Int) < (k : Int) := by omega
      rw [List.drop_of_length_le (by have := hq.out; omega)] at hbad
      have hb9 : r = true := hbad.out
      subst hb9
      clear hbad
      go_wp2
      go_ret
      exact ⟨rfl, hb⟩

set_option maxHeartbeats 1000000 in
theorem pCheck_bad (s m : Int) (a : Option Addr) (q cap : Nat) (h : Pl.sd s = false ∨ m < 1 ∨ 6 < m) (w : World) :
    Calls Tryd.prog 56 #[.agg #[.int .i64 s, .int .i64 m, .slice a q cap]] w fun e w' => e = .returned (.int .i64 1) ∧ Below w.heap.size w w' := by
  have HS := pSide_any s
  cases e1 : Pl.sd s
  · rw [e1] at HS
    replace HS := Lib.hid HS
    clear h
    go_enter Tryd.func56, Tryd.ntmps56
    go_wp2_with fail
    refine (HS.out _).mono ?_
    rintro e w1 ⟨rfl, hw1⟩
    subst hw1
    go_wp2
    go_ret
    exact ⟨rfl, (by repeat (first | with_reducible exact Below.refl _ _ | with_reducible assumption | refine below_drewN ?_ _ | refine Below.drew ?_ | refine Below.alloc ?_ (by first | (simp; done) | (simp; omega) | omega) _ | refine Below.setCell ?_ (by first | (simp; done) | (simp; omega) | omega) _ | refine Below.trans ?_ (Below.mono (by assumption) (by first | (simp; done) | (simp; omega) | omega))))⟩
  · rw [e1] at HS h
    replace HS := Lib.hid HS
    have h2 : m < 1 ∨ (¬ m < 1 ∧ 6 < m) := by
      rcases h with h | h | h
      · cases h
      · exact .inl h
      · exact .inr ⟨by omega, h⟩
    clear h
    rcases h2 with h2 | ⟨h2, h3⟩
    · go_enter Tryd.func56, Tryd.ntmps56
      go_wp2_with fail
      refine (HS.out _).mono ?_
      rintro e w1 ⟨rfl, hw1⟩
      subst hw1
      go_wp2
      go_ret
      exact ⟨rfl, (by repeat (first | with_reducible exact Below.refl _ _ | with_reducible assumption | refine below_drewN ?_ _ | refine Below.drew ?_ | refine Below.alloc ?_ (by first | (simp; done) | (simp; omega) | omega) _ | refine Below.setCell ?_ (by first | (simp; done) | (simp; omega) | omega) _ | refine Below.trans ?_ (Below.mono (by assumption) (by first | (simp; done) | (simp; omega) | omega))))⟩
    · go_enter Tryd.func56, Tryd.ntmps56
      go_wp2_with fail
      refine (HS.out _).mono ?_
      rintro e w1 ⟨rfl, hw1⟩
      subst hw1
      go_wp2
      go_ret
      exact ⟨rfl, (by repeat (first | with_reducible exact Below.refl _ _ | with_reducible assumption | refine below_drewN ?_ _ | refine Below.drew ?_ | refine Below.alloc ?_ (by first | (simp; done) | (simp; omega) | omega) _ | refine Below.setCell ?_ (by first | (simp; done) | (simp; omega) | omega) _ | refine Below.trans ?_ (Below.mono (by assumption) (by first | (simp; done) | (simp; omega) | omega))))⟩

set_option maxHeartbeats 1000000 in
theorem pCheck_long (s m : Int) (a : Option Addr) (q cap : Nat) (h0 : Pl.sd s = true) (h1 : ¬ m < 1) (h2 : ¬ 6 < m) (h3 : (16 : Int) < (q : Int)) (w : World) :
    Calls Tryd.prog 56 #[.agg #[.int .i64 s, .int .i64 m, .slice a q cap]] w fun e w' => e = .returned (.int .i64 2) ∧ Below w.heap.size w w' := by
  have HS := pSide_any s
  rw [h0] at HS
  replace HS := Lib.hid HS
  clear h0
  go_enter Tryd.func56, Tryd.ntmps56
  go_wp2_with fail
  refine (HS.out _).mono ?_
  rintro e w1 ⟨rfl, hw1⟩
  subst hw1
  go_wp2
  go_ret
  exact ⟨rfl, (by repeat (first | with_reducible exact Below.refl _ _ | with_reducible assumption | refine below_drewN ?_ _ | refine Below.drew ?_ | refine Below.alloc ?_ (by first | (simp; done) | (simp; omega) | omega) _ | refine Below.setCell ?_ (by first | (simp; done) | (simp; omega) | omega) _ | refine Below.trans ?_ (Below.mono (by assumption) (by first | (simp; done) | (simp; omega) | omega))))⟩

theorem pCheck_any (s m : Int) (a : Option Addr) (cap : Nat) (L : List Pl.Wk) (w : World) (hL : Hid (WksAt w a L)) :
    Calls Tryd.prog 56 #[shV s m a L.length cap] w fun e w' => e = .returned (.int .i64 (Pl.chk s m L)) ∧ Below w.heap.size w w' := by
  unfold shV Pl.chk
  by_cases h : Pl.sd s = false ∨ m < 1 ∨ 6 < m
  · rw [if_pos (by rcases h with h | h | h; have := of_decide_eq_false h; omega; omega; omega)]
    exact pCheck_bad s m a _ cap h w
  · have hs : Pl.sd s = true := by
      cases e : Pl.sd s
      · exact (h (.inl e)).elim
      · rfl
    have hs2 := of_decide_eq_true hs
    rw [if_neg (by omega)]
    by_cases h3 : 16 < L.length
    · rw [if_pos h3]
      exact pCheck_long s m a _ cap hs (by omega) (by omega) (by omega) w
    · rw [if_neg h3]
      exact pCheck_loop s m a cap L _ (Lib.hid rfl) hs (by omega) (by omega) (by omega) w hL

set_option maxHeartbeats 1000000 in
/-- checkPlate -/
theorem checkPlate_any (s m : Int) (a : Option Addr) (cap : Nat) (L : List Pl.Wk) (p : Int) (w : World) (hL : Hid (WksAt w a L)) :
    Calls Tryd.prog 39 #[shV s m a L.length cap, .int .i64 p] w fun e w' => e = .returned (.int .i64 (if Pl.chk s m L ≠ 0 then Pl.chk s m L else if Pl.ix p m then 0 else 1)) ∧ Below w.heap.size w w' := by
  have HC := Lib.hid fun (W : World) (hb : Below w.heap.size w W) => pCheck_any s m a cap L W (Lib.hid (hL.out.below hb))
  have HI := pIndex_any p m
  generalize Pl.chk s m L = er at *
  generalize Pl.ix p m = ib at *
  replace HI := Lib.hid HI
  unfold shV at *
  go_enter Tryd.func39, Tryd.ntmps39
  go_wp2_with fail
  refine (HC.out _ (by repeat (first | with_reducible exact Below.refl _ _ | with_reducible assumption | refine below_drewN ?_ _ | refine Below.drew ?_ | refine Below.alloc ?_ (by first | (simp; done) | (simp; omega) | omega) _ | refine Below.setCell ?_ (by first | (simp; done) | (simp; omega) | omega) _ | refine Below.trans ?_ (Below.mono (by assumption) (by first | (simp; done) | (simp; omega) | omega))))).mono ?_
  rintro e w1 ⟨rfl, hb1⟩
  have k1 : w1.cell? ⟨w.heap.size, 1, none⟩ = some (.int .i64 m) := kept1 (by simp [go_sem]) hb1
  have hbw : Below w.heap.size w w1 := (by repeat (first | with_reducible exact Below.refl _ _ | with_reducible assumption | refine below_drewN ?_ _ | refine Below.drew ?_ | refine Below.alloc ?_ (by first | (simp; done) | (simp; omega) | omega) _ | refine Below.setCell ?_ (by first | (simp; done) | (simp; omega) | omega) _ | refine Below.trans ?_ (Below.mono (by assumption) (by first | (simp; done) | (simp; omega) | omega))))
  clear hb1 HC
  by_cases h0 : er = 0
  · subst h0
    go_wp2_with fail
    refine (HI.out _).mono ?_
    rintro e w2 ⟨rfl, hw2⟩
    subst hw2
    cases ib
    · go_wp2
      go_ret
      exact ⟨rfl, hbw⟩
    · go_wp2
      go_ret
      exact ⟨rfl, hbw⟩
  · have n0 : (er != 0) = true := by simpa using h0
    go_wp2
    go_ret
    exact ⟨rfl, hbw⟩
end Go.Proofs.YtmkjmpkicmadcaaDoor

/-
  DERIVED: THE SHELF's CONTRACTS AT THIS DUMP, IN PLAIN WORDS (tools/lay-plain.mjs out of 'TrydShelf.lean', which tools/lay-shelf.mjs wrote): THE SAME DECLARATIONS UNDER THE SAME NAMES: 'import', 'namespace', 'open', 'def', 'theorem' AND NOTHING ELSE: no command of the shelf's: FOR A HAND-IN. Each laying: the table of numbers ('.._ren') and one theorem, a field a fact of the dump's own or the kernel's comparison; each contract: ONE APPLICATION.
-/
namespace Go.Proofs
open Go.Shelf
def Tryd.lays169_ren : Go.Shelf.Ren := ⟨fun | 169 => 64 | n => n, fun | 70 => 105 | 9 => 9 | 0 => 0 | 72 => 108 | 37 => 106 | 127 => 135 | 3 => 3 | 5 => 5 | n => n, fun | n => n⟩
theorem Tryd.lays169 : Go.Proofs.Lays.n169 Tryd.prog Tryd.lays169_ren := {
  mixed := by kernel_rfl
  f169 := Tryd.func64.trans (congrArg some (by kernel_rfl))
  t0 := Tryd.underlying0
  a0 := Tryd.isAgg0
  z0 := Tryd.sizeOf0
  v0 := Tryd.zeroValue0
  t3 := Tryd.underlying3
  a3 := Tryd.isAgg3
  z3 := Tryd.sizeOf3
  v3 := Tryd.zeroValue3
  t9 := Tryd.underlying9
  a9 := Tryd.isAgg9
  z9 := Tryd.sizeOf9
  v9 := Tryd.zeroValue9
  t37 := Tryd.underlying106
  a37 := Tryd.isAgg106
  z37 := Tryd.sizeOf106
  v37 := Tryd.zeroValue106
  t70 := Tryd.underlying105
  a70 := Tryd.isAgg105
  z70 := Tryd.sizeOf105
  v70 := Tryd.zeroValue105
  t72 := Tryd.underlying108
  a72 := Tryd.isAgg108
  z72 := Tryd.sizeOf108
  v72 := Tryd.zeroValue108
  t127 := Tryd.underlying135
  a127 := Tryd.isAgg135
  z127 := Tryd.sizeOf135
  v127 := Tryd.zeroValue135 }
theorem Tryd.Builder_Extra_169 : Builder.Extra Tryd.prog Tryd.lays169_ren := {
  sizeBuilder := by kernel_rfl
  liesBuilder := by kernel_rfl
  t5 := Tryd.underlying5
  a5 := Tryd.isAgg5
  z5 := Tryd.sizeOf5
  v5 := Tryd.zeroValue5
  infoByte := by kernel_rfl
  cellsByte := by kernel_rfl
  sizeByte := by kernel_rfl
  neB5 := by decide }
open Go.RowKit in
/-- (*strings.Builder).String: "String returns the accumulated string.": OF A BUILDER THAT HOLDS AT LEAST ONE BYTE. ✋ THE MODEL FREEZES THOSE BYTES IN THE BUFFER (unsafe.String): a later write INTO them ends the model's run without an answer; a later append BEHIND them goes on. The statement's order of evaluation is drawn: one draw. (LAID: no walk: one application.) -/
theorem Tryd.Builder_String (B b : Nat) (l : List UInt8) (w : World) (h : Lib.IsBuilder 108 5 B b (Lib.byteCells l) w) (h0 : l ≠ []) :
    Calls Tryd.prog 64 #[.pointer (some ⟨b, 0, none⟩)] w fun e w' => e = .returned (.string ⟨l.toArray⟩) ∧ Below B w w' := Any.Builder_String Tryd.lays169 Tryd.Builder_Extra_169 B b l w h h0
open Go.RowKit in
/-- (*strings.Builder).String OF A BUILDER THAT HOLDS NO BYTE: the empty string. (Its buffer is nil, or a row of which it has taken nothing yet; where that row has NO capacity the model lays one new block for unsafe.SliceData's 'some address'.) One draw. (LAID: no walk: one application.) -/
theorem Tryd.Builder_String_empty (B b : Nat) (w : World) (h : Lib.IsBuilder 108 5 B b [] w) (hBw : B ≤ w.heap.size) :
    Calls Tryd.prog 64 #[.pointer (some ⟨b, 0, none⟩)] w fun e w' => e = .returned (.string ⟨#[]⟩) ∧ Below B w w' := Any.Builder_String_empty Tryd.lays169 Tryd.Builder_Extra_169 B b w h hBw
open Go.RowKit in
/-- (*strings.Builder).String: "String returns the accumulated string.": WHATEVER THE BUILDER HOLDS. (LAID: no walk: one application.) -/
theorem Tryd.Builder_String_any (B b : Nat) (l : List UInt8) (w : World) (h : Lib.IsBuilder 108 5 B b (Lib.byteCells l) w) (hBw : B ≤ w.heap.size) :
    Calls Tryd.prog 64 #[.pointer (some ⟨b, 0, none⟩)] w fun e w' => e = .returned (.string ⟨l.toArray⟩) ∧ Below B w w' := Any.Builder_String_any Tryd.lays169 Tryd.Builder_Extra_169 B b l w h hBw
open Go.RowKit in
/-- (*strings.Builder).String: "String returns the accumulated string.": OF A BUILDER THAT HOLDS AT LEAST ONE BYTE. ✋ THE MODEL FREEZES THOSE BYTES IN THE BUFFER (unsafe.String): a later write INTO them ends the model's run without an answer; a later append BEHIND them goes on. The statement's order of evaluation is drawn: one draw. THE FORM '_f': IT SAYS BESIDES THAT THE BUILDER IS A BUILDER STILL ('Lib.IsBuilderF', the same bytes): SO IT CAN BE WRITTEN ON: 'b.WriteString(b.String()[:k])'. (LAID: no walk: one application.) -/
theorem Tryd.Builder_String_f (B b : Nat) (l : List UInt8) (w : World) (h : Lib.IsBuilderF 108 5 B b (Lib.byteCells l) w) (h0 : l ≠ []) :
    Calls Tryd.prog 64 #[.pointer (some ⟨b, 0, none⟩)] w fun e w' => e = .returned (.string ⟨l.toArray⟩) ∧ (Lib.IsBuilderF 108 5 B b (Lib.byteCells l) w' ∧ Below B w w') := Any.Builder_String_f Tryd.lays169 Tryd.Builder_Extra_169 B b l w h h0
open Go.RowKit in
/-- (*strings.Builder).String OF A BUILDER THAT HOLDS NO BYTE: the empty string; THE FORM '_f': a builder still. (LAID: no walk: one application.) -/
theorem Tryd.Builder_String_empty_f (B b : Nat) (w : World) (h : Lib.IsBuilderF 108 5 B b [] w) (hBw : B ≤ w.heap.size) :
    Calls Tryd.prog 64 #[.pointer (some ⟨b, 0, none⟩)] w fun e w' => e = .returned (.string ⟨#[]⟩) ∧ (Lib.IsBuilderF 108 5 B b [] w' ∧ Below B w w') := Any.Builder_String_empty_f Tryd.lays169 Tryd.Builder_Extra_169 B b w h hBw
open Go.RowKit in
/-- (*strings.Builder).String: "String returns the accumulated string.": WHATEVER THE BUILDER HOLDS; THE FORM '_f': OF A BUILDER THAT MAY HAVE BEEN READ BEFORE; AND IT IS A BUILDER STILL, holding the same bytes: it can be written on. (LAID: no walk: one application.) -/
theorem Tryd.Builder_String_any_f (B b : Nat) (l : List UInt8) (w : World) (h : Lib.IsBuilderF 108 5 B b (Lib.byteCells l) w) (hBw : B ≤ w.heap.size) :
    Calls Tryd.prog 64 #[.pointer (some ⟨b, 0, none⟩)] w fun e w' => e = .returned (.string ⟨l.toArray⟩) ∧ (Lib.IsBuilderF 108 5 B b (Lib.byteCells l) w' ∧ Below B w w') := Any.Builder_String_any_f Tryd.lays169 Tryd.Builder_Extra_169 B b l w h hBw
open Go.RowKit in
/-- (*strings.Builder).String: "String returns the accumulated string.": OF A BUILDER THAT HOLDS AT LEAST ONE BYTE. ✋ THE MODEL FREEZES THOSE BYTES IN THE BUFFER (unsafe.String): a later write INTO them ends the model's run without an answer; a later append BEHIND them goes on. The statement's order of evaluation is drawn: one draw. THE FORM '_k': OVER 'Lib.IsBuilderF' (a builder that 'String()' may have read), AND WITH THE FRAME THAT REACHES ABOVE THE BUILDER: 'Lib.OthersKept': every block that is not b and is no row of uint8's stands as it stood: the iterator of a range among them. (LAID: no walk: one application.) -/
theorem Tryd.Builder_String_k (B b : Nat) (l : List UInt8) (w : World) (h : Lib.IsBuilderF 108 5 B b (Lib.byteCells l) w) (h0 : l ≠ []) :
    Calls Tryd.prog 64 #[.pointer (some ⟨b, 0, none⟩)] w fun e w' => e = .returned (.string ⟨l.toArray⟩) ∧ (Lib.IsBuilderF 108 5 B b (Lib.byteCells l) w' ∧ Below B w w' ∧ Lib.OthersKept 5 (some b) w w') := Any.Builder_String_k Tryd.lays169 Tryd.Builder_Extra_169 B b l w h h0
open Go.RowKit in
/-- (*strings.Builder).String OF A BUILDER THAT HOLDS NO BYTE: the empty string; THE FORM '_k': OVER 'Lib.IsBuilderF' (a builder that 'String()' may have read), AND WITH THE FRAME THAT REACHES ABOVE THE BUILDER: 'Lib.OthersKept': every block that is not b and is no row of uint8's stands as it stood: the iterator of a range among them. (LAID: no walk: one application.) -/
theorem Tryd.Builder_String_empty_k (B b : Nat) (w : World) (h : Lib.IsBuilderF 108 5 B b [] w) (hBw : B ≤ w.heap.size) :
    Calls Tryd.prog 64 #[.pointer (some ⟨b, 0, none⟩)] w fun e w' => e = .returned (.string ⟨#[]⟩) ∧ (Lib.IsBuilderF 108 5 B b [] w' ∧ Below B w w' ∧ Lib.OthersKept 5 (some b) w w') := Any.Builder_String_empty_k Tryd.lays169 Tryd.Builder_Extra_169 B b w h hBw
open Go.RowKit in
/-- (*strings.Builder).String: "String returns the accumulated string.": WHATEVER THE BUILDER HOLDS; THE FORM '_k': OVER 'Lib.IsBuilderF' (a builder that 'String()' may have read), AND WITH THE FRAME THAT REACHES ABOVE THE BUILDER: 'Lib.OthersKept': every block that is not b and is no row of uint8's stands as it stood: the iterator of a range among them. (LAID: no walk: one application.) -/
theorem Tryd.Builder_String_any_k (B b : Nat) (l : List UInt8) (w : World) (h : Lib.IsBuilderF 108 5 B b (Lib.byteCells l) w) (hBw : B ≤ w.heap.size) :
    Calls Tryd.prog 64 #[.pointer (some ⟨b, 0, none⟩)] w fun e w' => e = .returned (.string ⟨l.toArray⟩) ∧ (Lib.IsBuilderF 108 5 B b (Lib.byteCells l) w' ∧ Below B w w' ∧ Lib.OthersKept 5 (some b) w w') := Any.Builder_String_any_k Tryd.lays169 Tryd.Builder_Extra_169 B b l w h hBw
def Tryd.lays129_ren : Go.Shelf.Ren := ⟨fun | 129 => 95 | n => n, fun | 53 => 144 | 3 => 3 | 4 => 4 | 46 => 153 | 5 => 5 | 9 => 9 | n => n, fun | n => n⟩
theorem Tryd.lays129 : Go.Proofs.Lays.n129 Tryd.prog Tryd.lays129_ren := {
  mixed := by kernel_rfl
  f129 := Tryd.func95.trans (congrArg some (by kernel_rfl))
  t3 := Tryd.underlying3
  a3 := Tryd.isAgg3
  z3 := Tryd.sizeOf3
  v3 := Tryd.zeroValue3
  t4 := Tryd.underlying4
  a4 := Tryd.isAgg4
  z4 := Tryd.sizeOf4
  v4 := Tryd.zeroValue4
  t5 := Tryd.underlying5
  a5 := Tryd.isAgg5
  z5 := Tryd.sizeOf5
  v5 := Tryd.zeroValue5
  t9 := Tryd.underlying9
  a9 := Tryd.isAgg9
  z9 := Tryd.sizeOf9
  v9 := Tryd.zeroValue9
  t46 := Tryd.underlying153
  a46 := Tryd.isAgg153
  z46 := Tryd.sizeOf153
  v46 := Tryd.zeroValue153
  t53 := Tryd.underlying144
  a53 := Tryd.isAgg144
  z53 := Tryd.sizeOf144
  v53 := Tryd.zeroValue144 }
/-- bits.Len64: "Len64 returns the minimum number of bits required to represent x; the result is 0 for x == 0.": IT RETURNS 'Lib.bitLen x'; the world is as it was. ('h0', 'h1': x is a uint64.) (LAID: no walk: one application.) -/
theorem Tryd.bits_Len64 (x : Int) (w : World) (h0 : 0 ≤ x) (h1 : x ≤ 18446744073709551615) :
    Calls Tryd.prog 95 #[.int .u64 x] w fun e w' => e = .returned (.int .i64 (Lib.bitLen x.toNat)) ∧ w' = w := Any.bits_Len64 Tryd.lays129 x w h0 h1
def Tryd.lays317_ren : Go.Shelf.Ren := ⟨fun | 317 => 94 | n => n, fun | 3 => 3 | 46 => 153 | n => n, fun | n => n⟩
theorem Tryd.lays317 : Go.Proofs.Lays.n317 Tryd.prog Tryd.lays317_ren := {
  mixed := by kernel_rfl
  f317 := Tryd.func94.trans (congrArg some (by kernel_rfl))
  t3 := Tryd.underlying3
  a3 := Tryd.isAgg3
  z3 := Tryd.sizeOf3
  v3 := Tryd.zeroValue3
  t46 := Tryd.underlying153
  a46 := Tryd.isAgg153
  z46 := Tryd.sizeOf153
  v46 := Tryd.zeroValue153 }
open Go.Lib in
/-- internal/strconv.log10Pow2: "log10Pow2(x) returns ⌊log₁₀ 2**x⌋ = ⌊x * log₁₀ 2⌋.": '(x * 78913) >> 18', at an x up to 64 (a length in bits). The world is as it was. (LAID: no walk: one application.) -/
theorem Tryd.internal_strconv_log10Pow2 (x : Nat) (h : x ≤ 64) (w : World) :
    Calls Tryd.prog 94 #[.int .i64 x] w fun e w' => e = .returned (.int .i64 (Lib.l10 x)) ∧ w' = w := Any.internal_strconv_log10Pow2 Tryd.lays317 x h w
def Tryd.lays318_ren : Go.Shelf.Ren := ⟨fun | 318 => 96 | n => n, fun | 3 => 3 | 4 => 4 | n => n, fun | n => n⟩
theorem Tryd.lays318 : Go.Proofs.Lays.n318 Tryd.prog Tryd.lays318_ren := {
  mixed := by kernel_rfl
  f318 := Tryd.func96.trans (congrArg some (by kernel_rfl))
  t3 := Tryd.underlying3
  a3 := Tryd.isAgg3
  z3 := Tryd.sizeOf3
  v3 := Tryd.zeroValue3
  t4 := Tryd.underlying4
  a4 := Tryd.isAgg4
  z4 := Tryd.sizeOf4
  v4 := Tryd.zeroValue4 }
open Go.Lib in
/-- internal/strconv.bool2: "bool2 converts b to an integer: 1 for true, 0 for false." The world is as it was. (LAID: no walk: one application.) -/
theorem Tryd.internal_strconv_bool2_int (b : Bool) (w : World) :
    Calls Tryd.prog 96 #[.bool b] w fun e w' => e = .returned (.int .i64 (if b then 1 else 0)) ∧ w' = w := Any.internal_strconv_bool2_int Tryd.lays318 b w
def Tryd.lays283_ren : Go.Shelf.Ren := ⟨fun | 283 => 90 | n => n, fun | 3 => 3 | 9 => 9 | 4 => 4 | n => n, fun | n => n⟩
theorem Tryd.lays283 : Go.Proofs.Lays.n283 Tryd.prog Tryd.lays283_ren := {
  mixed := by kernel_rfl
  f283 := Tryd.func90.trans (congrArg some (by kernel_rfl))
  t3 := Tryd.underlying3
  a3 := Tryd.isAgg3
  z3 := Tryd.sizeOf3
  v3 := Tryd.zeroValue3
  t4 := Tryd.underlying4
  a4 := Tryd.isAgg4
  z4 := Tryd.sizeOf4
  v4 := Tryd.zeroValue4
  t9 := Tryd.underlying9
  a9 := Tryd.isAgg9
  z9 := Tryd.sizeOf9
  v9 := Tryd.zeroValue9 }
open Go.Lib in
/-- internal/strconv.small: "small returns the string for an i with 0 <= i < nSmalls.": i's decimal numeral. The world is as it was. (LAID: no walk: one application.) -/
theorem Tryd.internal_strconv_small (i : Nat) (h : i < 100) (w : World) :
    Calls Tryd.prog 90 #[.int .i64 i] w fun e w' => e = .returned (.string ⟨(Lib.decDigits i).toArray⟩) ∧ w' = w := Any.internal_strconv_small Tryd.lays283 i h w
def Tryd.laysM284_ren : Go.Shelf.Ren := ⟨fun | 284 => 91 | 129 => 95 | 317 => 94 | 318 => 96 | n => n, fun | 53 => 144 | 3 => 3 | 212 => 150 | 0 => 0 | 4 => 4 | 46 => 153 | 5 => 5 | 9 => 9 | n => n, fun | 17 => 0 | n => n⟩
theorem Tryd.laysM284 : Go.Proofs.LaysM.n284 Tryd.prog Tryd.laysM284_ren := {
  mixed := by kernel_rfl
  f129 := Tryd.func95.trans (congrArg some (by kernel_rfl))
  f284 := Tryd.func91.trans (congrArg some (by kernel_rfl))
  f317 := Tryd.func94.trans (congrArg some (by kernel_rfl))
  f318 := Tryd.func96.trans (congrArg some (by kernel_rfl))
  t0 := Tryd.underlying0
  a0 := Tryd.isAgg0
  z0 := Tryd.sizeOf0
  v0 := Tryd.zeroValue0
  t3 := Tryd.underlying3
  a3 := Tryd.isAgg3
  z3 := Tryd.sizeOf3
  v3 := Tryd.zeroValue3
  t4 := Tryd.underlying4
  a4 := Tryd.isAgg4
  z4 := Tryd.sizeOf4
  v4 := Tryd.zeroValue4
  t5 := Tryd.underlying5
  a5 := Tryd.isAgg5
  z5 := Tryd.sizeOf5
  v5 := Tryd.zeroValue5
  t9 := Tryd.underlying9
  a9 := Tryd.isAgg9
  z9 := Tryd.sizeOf9
  v9 := Tryd.zeroValue9
  t46 := Tryd.underlying153
  a46 := Tryd.isAgg153
  z46 := Tryd.sizeOf153
  v46 := Tryd.zeroValue153
  t53 := Tryd.underlying144
  a53 := Tryd.isAgg144
  z53 := Tryd.sizeOf144
  v53 := Tryd.zeroValue144
  t212 := Tryd.underlying150
  a212 := Tryd.isAgg150
  z212 := Tryd.sizeOf150
  v212 := Tryd.zeroValue150
  g17 := by kernel_rfl
  i0 := by kernel_rfl
  i3 := by kernel_rfl
  i4 := by kernel_rfl
  i5 := by kernel_rfl
  i9 := by kernel_rfl
  i46 := by kernel_rfl
  i53 := by kernel_rfl
  i212 := by kernel_rfl
  m17 := by kernel_rfl }
open Go.Lib in
/-- internal/strconv.numDigits, at a d that is not 0: THE NUMBER OF d's DECIMAL DIGITS. The world is as it was. (LAID: no walk: one application.) -/
theorem Tryd.internal_strconv_numDigits (u : Nat) (h1 : 1 ≤ u) (h2 : u < 18446744073709551616) (w : World) (htab : Lib.TabIs Tryd.prog w "internal/strconv.uint64pow10" .u64 Lib.pow10Tab) :
    Calls Tryd.prog 91 #[.int .u64 u] w fun e w' => e = .returned (.int .i64 (Lib.nDigits u)) ∧ w' = w := Any.internal_strconv_numDigits Tryd.laysM284 u h1 h2 w htab
def Tryd.lays285_ren : Go.Shelf.Ren := ⟨fun | 285 => 92 | n => n, fun | 37 => 106 | 53 => 144 | 3 => 3 | 4 => 4 | 51 => 151 | 9 => 9 | 5 => 5 | 0 => 0 | n => n, fun | n => n⟩
theorem Tryd.lays285 : Go.Proofs.Lays.n285 Tryd.prog Tryd.lays285_ren := {
  mixed := by kernel_rfl
  f285 := Tryd.func92.trans (congrArg some (by kernel_rfl))
  t0 := Tryd.underlying0
  a0 := Tryd.isAgg0
  z0 := Tryd.sizeOf0
  v0 := Tryd.zeroValue0
  t3 := Tryd.underlying3
  a3 := Tryd.isAgg3
  z3 := Tryd.sizeOf3
  v3 := Tryd.zeroValue3
  t4 := Tryd.underlying4
  a4 := Tryd.isAgg4
  z4 := Tryd.sizeOf4
  v4 := Tryd.zeroValue4
  t5 := Tryd.underlying5
  a5 := Tryd.isAgg5
  z5 := Tryd.sizeOf5
  v5 := Tryd.zeroValue5
  t9 := Tryd.underlying9
  a9 := Tryd.isAgg9
  z9 := Tryd.sizeOf9
  v9 := Tryd.zeroValue9
  t37 := Tryd.underlying106
  a37 := Tryd.isAgg106
  z37 := Tryd.sizeOf106
  v37 := Tryd.zeroValue106
  t51 := Tryd.underlying151
  a51 := Tryd.isAgg151
  z51 := Tryd.sizeOf151
  v51 := Tryd.zeroValue151
  t53 := Tryd.underlying144
  a53 := Tryd.isAgg144
  z53 := Tryd.sizeOf144
  v53 := Tryd.zeroValue144 }
open Go.RowKit Go.Sort Go.Lib in
/-- internal/strconv.formatBase10: "formatBase10 formats the decimal representation of u into a. The caller is responsible for ensuring that a is big enough to hold u. If a is too big, leading zeros will be filled in as needed.": THE ROW HOLDS u's DIGITS ('FmtInv .. 0 ..': every place t holds 'dg u (len - 1 - t)'); all else is as it was but for the count of draws. (LAID: no walk: one application.) -/
theorem Tryd.internal_strconv_formatBase10 (blk off cap : Nat) (u : Nat) (d : Array UInt8) (w : World) (hH : Holds (fun (b : UInt8) => Value.int .u8 (b.toNat : Int)) w blk off d) (hu : u < 10 ^ d.size) (hu64 : u < 18446744073709551616) (hsz : d.size < 4611686018427387904) :
    Calls Tryd.prog 92 #[.slice (some ⟨blk, off, none⟩) d.size cap, .int .u64 u] w fun e w' =>
      e = .returned (.tuple #[]) ∧ ∃ (n v' : Nat) (dk : Array UInt8), w' = (putRow (fun (b : UInt8) => Value.int .u8 (b.toNat : Int)) w blk off dk).drewN n ∧ FmtInv d.size u 0 v' dk := Any.internal_strconv_formatBase10 Tryd.lays285 blk off cap u d w hH hu hu64 hsz
def Tryd.laysM246_ren : Go.Shelf.Ren := ⟨fun | 246 => 89 | 283 => 90 | 284 => 91 | 285 => 92 | 286 => 93 | 129 => 95 | 317 => 94 | 318 => 96 | 319 => 97 | 320 => 98 | 337 => 99 | 338 => 100 | n => n, fun | 2 => 2 | 3 => 3 | 9 => 9 | 4 => 4 | 171 => 143 | 0 => 0 | 53 => 144 | 37 => 106 | 5 => 5 | 173 => 147 | 212 => 150 | 51 => 151 | 20 => 20 | 213 => 152 | 46 => 153 | 232 => 156 | 233 => 157 | n => n, fun | 17 => 0 | 18 => 1 | 19 => 2 | n => n⟩
theorem Tryd.laysM246 : Go.Proofs.LaysM.n246 Tryd.prog Tryd.laysM246_ren := {
  mixed := by kernel_rfl
  f129 := Tryd.func95.trans (congrArg some (by kernel_rfl))
  f246 := Tryd.func89.trans (congrArg some (by kernel_rfl))
  f283 := Tryd.func90.trans (congrArg some (by kernel_rfl))
  f284 := Tryd.func91.trans (congrArg some (by kernel_rfl))
  f285 := Tryd.func92.trans (congrArg some (by kernel_rfl))
  f286 := Tryd.func93.trans (congrArg some (by kernel_rfl))
  f317 := Tryd.func94.trans (congrArg some (by kernel_rfl))
  f318 := Tryd.func96.trans (congrArg some (by kernel_rfl))
  f319 := Tryd.func97.trans (congrArg some (by kernel_rfl))
  f320 := Tryd.func98.trans (congrArg some (by kernel_rfl))
  f337 := Tryd.func99.trans (congrArg some (by kernel_rfl))
  f338 := Tryd.func100.trans (congrArg some (by kernel_rfl))
  t0 := Tryd.underlying0
  a0 := Tryd.isAgg0
  z0 := Tryd.sizeOf0
  v0 := Tryd.zeroValue0
  t2 := Tryd.underlying2
  a2 := Tryd.isAgg2
  z2 := Tryd.sizeOf2
  v2 := Tryd.zeroValue2
  t3 := Tryd.underlying3
  a3 := Tryd.isAgg3
  z3 := Tryd.sizeOf3
  v3 := Tryd.zeroValue3
  t4 := Tryd.underlying4
  a4 := Tryd.isAgg4
  z4 := Tryd.sizeOf4
  v4 := Tryd.zeroValue4
  t5 := Tryd.underlying5
  a5 := Tryd.isAgg5
  z5 := Tryd.sizeOf5
  v5 := Tryd.zeroValue5
  t9 := Tryd.underlying9
  a9 := Tryd.isAgg9
  z9 := Tryd.sizeOf9
  v9 := Tryd.zeroValue9
  t20 := Tryd.underlying20
  a20 := Tryd.isAgg20
  z20 := Tryd.sizeOf20
  v20 := Tryd.zeroValue20
  t37 := Tryd.underlying106
  a37 := Tryd.isAgg106
  z37 := Tryd.sizeOf106
  v37 := Tryd.zeroValue106
  t46 := Tryd.underlying153
  a46 := Tryd.isAgg153
  z46 := Tryd.sizeOf153
  v46 := Tryd.zeroValue153
  t51 := Tryd.underlying151
  a51 := Tryd.isAgg151
  z51 := Tryd.sizeOf151
  v51 := Tryd.zeroValue151
  t53 := Tryd.underlying144
  a53 := Tryd.isAgg144
  z53 := Tryd.sizeOf144
  v53 := Tryd.zeroValue144
  t171 := Tryd.underlying143
  a171 := Tryd.isAgg143
  z171 := Tryd.sizeOf143
  v171 := Tryd.zeroValue143
  t173 := Tryd.underlying147
  a173 := Tryd.isAgg147
  z173 := Tryd.sizeOf147
  v173 := Tryd.zeroValue147
  t212 := Tryd.underlying150
  a212 := Tryd.isAgg150
  z212 := Tryd.sizeOf150
  v212 := Tryd.zeroValue150
  t213 := Tryd.underlying152
  a213 := Tryd.isAgg152
  z213 := Tryd.sizeOf152
  t232 := Tryd.underlying156
  a232 := Tryd.isAgg156
  z232 := Tryd.sizeOf156
  v232 := Tryd.zeroValue156
  t233 := Tryd.underlying157
  a233 := Tryd.isAgg157
  z233 := Tryd.sizeOf157
  v233 := Tryd.zeroValue157
  g17 := by kernel_rfl
  g18 := by kernel_rfl
  g19 := by kernel_rfl
  i0 := by kernel_rfl
  i2 := by kernel_rfl
  i3 := by kernel_rfl
  i4 := by kernel_rfl
  i5 := by kernel_rfl
  i9 := by kernel_rfl
  i20 := by kernel_rfl
  i37 := by kernel_rfl
  i46 := by kernel_rfl
  i51 := by kernel_rfl
  i53 := by kernel_rfl
  i171 := by kernel_rfl
  i173 := by kernel_rfl
  i212 := by kernel_rfl
  i232 := by kernel_rfl
  i233 := by kernel_rfl
  m17 := by kernel_rfl
  m18 := by kernel_rfl
  m19 := by kernel_rfl }
open Go.RowKit Go.Sort Go.Lib in
/-- internal/strconv.FormatInt: "FormatInt returns the string representation of i in the given base": AT BASE 10: i's decimal numeral, for every int64. The world behind the call: the world before it, new blocks behind the heap, draws. (LAID: no walk: one application.) -/
theorem Tryd.internal_strconv_FormatInt_10 (n : Int) (h0 : -9223372036854775808 ≤ n) (h1 : n ≤ 9223372036854775807) (w : World) (htab : Lib.TabIs Tryd.prog w "internal/strconv.uint64pow10" .u64 Lib.pow10Tab) :
    Calls Tryd.prog 89 #[.int .i64 n, .int .i64 10] w fun e w' => e = .returned (.string ⟨(Lib.itoa n).toArray⟩) ∧ ∃ k os, w' = grow (w.drewN k) os := Any.internal_strconv_FormatInt_10 Tryd.laysM246 n h0 h1 w htab
def Tryd.lays246_ren : Go.Shelf.Ren := ⟨fun | 246 => 89 | 283 => 90 | 284 => 91 | 285 => 92 | 286 => 93 | 129 => 95 | 317 => 94 | 318 => 96 | 319 => 97 | 320 => 98 | 337 => 99 | 338 => 100 | n => n, fun | 2 => 2 | 3 => 3 | 9 => 9 | 4 => 4 | 171 => 143 | 0 => 0 | 53 => 144 | 37 => 106 | 5 => 5 | 173 => 147 | 212 => 150 | 51 => 151 | 20 => 20 | 213 => 152 | 46 => 153 | 232 => 156 | 233 => 157 | n => n, fun | 17 => 0 | 18 => 1 | 19 => 2 | n => n⟩
theorem Tryd.lays246 : Go.Proofs.Lays.n246 Tryd.prog Tryd.lays246_ren := {
  mixed := by kernel_rfl
  f129 := Tryd.func95.trans (congrArg some (by kernel_rfl))
  f246 := Tryd.func89.trans (congrArg some (by kernel_rfl))
  f283 := Tryd.func90.trans (congrArg some (by kernel_rfl))
  f284 := Tryd.func91.trans (congrArg some (by kernel_rfl))
  f285 := Tryd.func92.trans (congrArg some (by kernel_rfl))
  f286 := Tryd.func93.trans (congrArg some (by kernel_rfl))
  f317 := Tryd.func94.trans (congrArg some (by kernel_rfl))
  f318 := Tryd.func96.trans (congrArg some (by kernel_rfl))
  f319 := Tryd.func97.trans (congrArg some (by kernel_rfl))
  f320 := Tryd.func98.trans (congrArg some (by kernel_rfl))
  f337 := Tryd.func99.trans (congrArg some (by kernel_rfl))
  f338 := Tryd.func100.trans (congrArg some (by kernel_rfl))
  t0 := Tryd.underlying0
  a0 := Tryd.isAgg0
  z0 := Tryd.sizeOf0
  v0 := Tryd.zeroValue0
  t2 := Tryd.underlying2
  a2 := Tryd.isAgg2
  z2 := Tryd.sizeOf2
  v2 := Tryd.zeroValue2
  t3 := Tryd.underlying3
  a3 := Tryd.isAgg3
  z3 := Tryd.sizeOf3
  v3 := Tryd.zeroValue3
  t4 := Tryd.underlying4
  a4 := Tryd.isAgg4
  z4 := Tryd.sizeOf4
  v4 := Tryd.zeroValue4
  t5 := Tryd.underlying5
  a5 := Tryd.isAgg5
  z5 := Tryd.sizeOf5
  v5 := Tryd.zeroValue5
  t9 := Tryd.underlying9
  a9 := Tryd.isAgg9
  z9 := Tryd.sizeOf9
  v9 := Tryd.zeroValue9
  t20 := Tryd.underlying20
  a20 := Tryd.isAgg20
  z20 := Tryd.sizeOf20
  v20 := Tryd.zeroValue20
  t37 := Tryd.underlying106
  a37 := Tryd.isAgg106
  z37 := Tryd.sizeOf106
  v37 := Tryd.zeroValue106
  t46 := Tryd.underlying153
  a46 := Tryd.isAgg153
  z46 := Tryd.sizeOf153
  v46 := Tryd.zeroValue153
  t51 := Tryd.underlying151
  a51 := Tryd.isAgg151
  z51 := Tryd.sizeOf151
  v51 := Tryd.zeroValue151
  t53 := Tryd.underlying144
  a53 := Tryd.isAgg144
  z53 := Tryd.sizeOf144
  v53 := Tryd.zeroValue144
  t171 := Tryd.underlying143
  a171 := Tryd.isAgg143
  z171 := Tryd.sizeOf143
  v171 := Tryd.zeroValue143
  t173 := Tryd.underlying147
  a173 := Tryd.isAgg147
  z173 := Tryd.sizeOf147
  v173 := Tryd.zeroValue147
  t212 := Tryd.underlying150
  a212 := Tryd.isAgg150
  z212 := Tryd.sizeOf150
  v212 := Tryd.zeroValue150
  t213 := Tryd.underlying152
  a213 := Tryd.isAgg152
  z213 := Tryd.sizeOf152
  t232 := Tryd.underlying156
  a232 := Tryd.isAgg156
  z232 := Tryd.sizeOf156
  v232 := Tryd.zeroValue156
  t233 := Tryd.underlying157
  a233 := Tryd.isAgg157
  z233 := Tryd.sizeOf157
  v233 := Tryd.zeroValue157
  g17 := by kernel_rfl
  g18 := by kernel_rfl
  g19 := by kernel_rfl }
open Go.RowKit Go.Sort Go.Lib in
/-- THE ROAD WITHOUT THE TABLE: 0 <= i < 100: two constants are read, nothing is laid: no premise on the world, and the world is as it was. (LAID: no walk: one application.) -/
theorem Tryd.internal_strconv_FormatInt_10_small (i : Nat) (hi : i < 100) (w : World) :
    Calls Tryd.prog 89 #[.int .i64 i, .int .i64 10] w fun e w' => e = .returned (.string ⟨(Lib.decDigits i).toArray⟩) ∧ w' = w := Any.internal_strconv_FormatInt_10_small Tryd.lays246 i hi w
def Tryd.laysM243_ren : Go.Shelf.Ren := ⟨fun | 243 => 87 | 246 => 89 | 283 => 90 | 284 => 91 | 285 => 92 | 286 => 93 | 129 => 95 | 317 => 94 | 318 => 96 | 319 => 97 | 320 => 98 | 337 => 99 | 338 => 100 | n => n, fun | 3 => 3 | 9 => 9 | 2 => 2 | 4 => 4 | 171 => 143 | 0 => 0 | 53 => 144 | 37 => 106 | 5 => 5 | 173 => 147 | 212 => 150 | 51 => 151 | 20 => 20 | 213 => 152 | 46 => 153 | 232 => 156 | 233 => 157 | n => n, fun | 17 => 0 | 18 => 1 | 19 => 2 | n => n⟩
theorem Tryd.laysM243 : Go.Proofs.LaysM.n243 Tryd.prog Tryd.laysM243_ren := {
  mixed := by kernel_rfl
  f129 := Tryd.func95.trans (congrArg some (by kernel_rfl))
  f243 := Tryd.func87.trans (congrArg some (by kernel_rfl))
  f246 := Tryd.func89.trans (congrArg some (by kernel_rfl))
  f283 := Tryd.func90.trans (congrArg some (by kernel_rfl))
  f284 := Tryd.func91.trans (congrArg some (by kernel_rfl))
  f285 := Tryd.func92.trans (congrArg some (by kernel_rfl))
  f286 := Tryd.func93.trans (congrArg some (by kernel_rfl))
  f317 := Tryd.func94.trans (congrArg some (by kernel_rfl))
  f318 := Tryd.func96.trans (congrArg some (by kernel_rfl))
  f319 := Tryd.func97.trans (congrArg some (by kernel_rfl))
  f320 := Tryd.func98.trans (congrArg some (by kernel_rfl))
  f337 := Tryd.func99.trans (congrArg some (by kernel_rfl))
  f338 := Tryd.func100.trans (congrArg some (by kernel_rfl))
  t0 := Tryd.underlying0
  a0 := Tryd.isAgg0
  z0 := Tryd.sizeOf0
  v0 := Tryd.zeroValue0
  t2 := Tryd.underlying2
  a2 := Tryd.isAgg2
  z2 := Tryd.sizeOf2
  v2 := Tryd.zeroValue2
  t3 := Tryd.underlying3
  a3 := Tryd.isAgg3
  z3 := Tryd.sizeOf3
  v3 := Tryd.zeroValue3
  t4 := Tryd.underlying4
  a4 := Tryd.isAgg4
  z4 := Tryd.sizeOf4
  v4 := Tryd.zeroValue4
  t5 := Tryd.underlying5
  a5 := Tryd.isAgg5
  z5 := Tryd.sizeOf5
  v5 := Tryd.zeroValue5
  t9 := Tryd.underlying9
  a9 := Tryd.isAgg9
  z9 := Tryd.sizeOf9
  v9 := Tryd.zeroValue9
  t20 := Tryd.underlying20
  a20 := Tryd.isAgg20
  z20 := Tryd.sizeOf20
  v20 := Tryd.zeroValue20
  t37 := Tryd.underlying106
  a37 := Tryd.isAgg106
  z37 := Tryd.sizeOf106
  v37 := Tryd.zeroValue106
  t46 := Tryd.underlying153
  a46 := Tryd.isAgg153
  z46 := Tryd.sizeOf153
  v46 := Tryd.zeroValue153
  t51 := Tryd.underlying151
  a51 := Tryd.isAgg151
  z51 := Tryd.sizeOf151
  v51 := Tryd.zeroValue151
  t53 := Tryd.underlying144
  a53 := Tryd.isAgg144
  z53 := Tryd.sizeOf144
  v53 := Tryd.zeroValue144
  t171 := Tryd.underlying143
  a171 := Tryd.isAgg143
  z171 := Tryd.sizeOf143
  v171 := Tryd.zeroValue143
  t173 := Tryd.underlying147
  a173 := Tryd.isAgg147
  z173 := Tryd.sizeOf147
  v173 := Tryd.zeroValue147
  t212 := Tryd.underlying150
  a212 := Tryd.isAgg150
  z212 := Tryd.sizeOf150
  v212 := Tryd.zeroValue150
  t213 := Tryd.underlying152
  a213 := Tryd.isAgg152
  z213 := Tryd.sizeOf152
  t232 := Tryd.underlying156
  a232 := Tryd.isAgg156
  z232 := Tryd.sizeOf156
  v232 := Tryd.zeroValue156
  t233 := Tryd.underlying157
  a233 := Tryd.isAgg157
  z233 := Tryd.sizeOf157
  v233 := Tryd.zeroValue157
  g17 := by kernel_rfl
  g18 := by kernel_rfl
  g19 := by kernel_rfl
  i0 := by kernel_rfl
  i2 := by kernel_rfl
  i3 := by kernel_rfl
  i4 := by kernel_rfl
  i5 := by kernel_rfl
  i9 := by kernel_rfl
  i20 := by kernel_rfl
  i37 := by kernel_rfl
  i46 := by kernel_rfl
  i51 := by kernel_rfl
  i53 := by kernel_rfl
  i171 := by kernel_rfl
  i173 := by kernel_rfl
  i212 := by kernel_rfl
  i232 := by kernel_rfl
  i233 := by kernel_rfl
  m17 := by kernel_rfl
  m18 := by kernel_rfl
  m19 := by kernel_rfl }
open Go.RowKit Go.Sort Go.Lib in
/-- internal/strconv.Itoa: "Itoa is equivalent to FormatInt(int64(i), 10).": i's decimal numeral, for every int. (LAID: no walk: one application.) -/
theorem Tryd.internal_strconv_Itoa (n : Int) (h0 : -9223372036854775808 ≤ n) (h1 : n ≤ 9223372036854775807) (w : World) (htab : Lib.TabIs Tryd.prog w "internal/strconv.uint64pow10" .u64 Lib.pow10Tab) :
    Calls Tryd.prog 87 #[.int .i64 n] w fun e w' => e = .returned (.string ⟨(Lib.itoa n).toArray⟩) ∧ ∃ k os, w' = grow (w.drewN k) os := Any.internal_strconv_Itoa Tryd.laysM243 n h0 h1 w htab
def Tryd.lays243_ren : Go.Shelf.Ren := ⟨fun | 243 => 87 | 246 => 89 | 283 => 90 | 284 => 91 | 285 => 92 | 286 => 93 | 129 => 95 | 317 => 94 | 318 => 96 | 319 => 97 | 320 => 98 | 337 => 99 | 338 => 100 | n => n, fun | 3 => 3 | 9 => 9 | 2 => 2 | 4 => 4 | 171 => 143 | 0 => 0 | 53 => 144 | 37 => 106 | 5 => 5 | 173 => 147 | 212 => 150 | 51 => 151 | 20 => 20 | 213 => 152 | 46 => 153 | 232 => 156 | 233 => 157 | n => n, fun | 17 => 0 | 18 => 1 | 19 => 2 | n => n⟩
theorem Tryd.lays243 : Go.Proofs.Lays.n243 Tryd.prog Tryd.lays243_ren := {
  mixed := by kernel_rfl
  f129 := Tryd.func95.trans (congrArg some (by kernel_rfl))
  f243 := Tryd.func87.trans (congrArg some (by kernel_rfl))
  f246 := Tryd.func89.trans (congrArg some (by kernel_rfl))
  f283 := Tryd.func90.trans (congrArg some (by kernel_rfl))
  f284 := Tryd.func91.trans (congrArg some (by kernel_rfl))
  f285 := Tryd.func92.trans (congrArg some (by kernel_rfl))
  f286 := Tryd.func93.trans (congrArg some (by kernel_rfl))
  f317 := Tryd.func94.trans (congrArg some (by kernel_rfl))
  f318 := Tryd.func96.trans (congrArg some (by kernel_rfl))
  f319 := Tryd.func97.trans (congrArg some (by kernel_rfl))
  f320 := Tryd.func98.trans (congrArg some (by kernel_rfl))
  f337 := Tryd.func99.trans (congrArg some (by kernel_rfl))
  f338 := Tryd.func100.trans (congrArg some (by kernel_rfl))
  t0 := Tryd.underlying0
  a0 := Tryd.isAgg0
  z0 := Tryd.sizeOf0
  v0 := Tryd.zeroValue0
  t2 := Tryd.underlying2
  a2 := Tryd.isAgg2
  z2 := Tryd.sizeOf2
  v2 := Tryd.zeroValue2
  t3 := Tryd.underlying3
  a3 := Tryd.isAgg3
  z3 := Tryd.sizeOf3
  v3 := Tryd.zeroValue3
  t4 := Tryd.underlying4
  a4 := Tryd.isAgg4
  z4 := Tryd.sizeOf4
  v4 := Tryd.zeroValue4
  t5 := Tryd.underlying5
  a5 := Tryd.isAgg5
  z5 := Tryd.sizeOf5
  v5 := Tryd.zeroValue5
  t9 := Tryd.underlying9
  a9 := Tryd.isAgg9
  z9 := Tryd.sizeOf9
  v9 := Tryd.zeroValue9
  t20 := Tryd.underlying20
  a20 := Tryd.isAgg20
  z20 := Tryd.sizeOf20
  v20 := Tryd.zeroValue20
  t37 := Tryd.underlying106
  a37 := Tryd.isAgg106
  z37 := Tryd.sizeOf106
  v37 := Tryd.zeroValue106
  t46 := Tryd.underlying153
  a46 := Tryd.isAgg153
  z46 := Tryd.sizeOf153
  v46 := Tryd.zeroValue153
  t51 := Tryd.underlying151
  a51 := Tryd.isAgg151
  z51 := Tryd.sizeOf151
  v51 := Tryd.zeroValue151
  t53 := Tryd.underlying144
  a53 := Tryd.isAgg144
  z53 := Tryd.sizeOf144
  v53 := Tryd.zeroValue144
  t171 := Tryd.underlying143
  a171 := Tryd.isAgg143
  z171 := Tryd.sizeOf143
  v171 := Tryd.zeroValue143
  t173 := Tryd.underlying147
  a173 := Tryd.isAgg147
  z173 := Tryd.sizeOf147
  v173 := Tryd.zeroValue147
  t212 := Tryd.underlying150
  a212 := Tryd.isAgg150
  z212 := Tryd.sizeOf150
  v212 := Tryd.zeroValue150
  t213 := Tryd.underlying152
  a213 := Tryd.isAgg152
  z213 := Tryd.sizeOf152
  t232 := Tryd.underlying156
  a232 := Tryd.isAgg156
  z232 := Tryd.sizeOf156
  v232 := Tryd.zeroValue156
  t233 := Tryd.underlying157
  a233 := Tryd.isAgg157
  z233 := Tryd.sizeOf157
  v233 := Tryd.zeroValue157
  g17 := by kernel_rfl
  g18 := by kernel_rfl
  g19 := by kernel_rfl }
open Go.RowKit Go.Sort Go.Lib in
/-- THE ROAD WITHOUT THE TABLE: 0 <= i < 100. (LAID: no walk: one application.) -/
theorem Tryd.internal_strconv_Itoa_small (i : Nat) (hi : i < 100) (w : World) :
    Calls Tryd.prog 87 #[.int .i64 i] w fun e w' => e = .returned (.string ⟨(Lib.decDigits i).toArray⟩) ∧ w' = w := Any.internal_strconv_Itoa_small Tryd.lays243 i hi w
def Tryd.laysM171_ren : Go.Shelf.Ren := ⟨fun | 171 => 81 | 243 => 87 | 246 => 89 | 283 => 90 | 284 => 91 | 285 => 92 | 286 => 93 | 129 => 95 | 317 => 94 | 318 => 96 | 319 => 97 | 320 => 98 | 337 => 99 | 338 => 100 | n => n, fun | 3 => 3 | 9 => 9 | 2 => 2 | 4 => 4 | 171 => 143 | 0 => 0 | 53 => 144 | 37 => 106 | 5 => 5 | 173 => 147 | 212 => 150 | 51 => 151 | 20 => 20 | 213 => 152 | 46 => 153 | 232 => 156 | 233 => 157 | n => n, fun | 17 => 0 | 18 => 1 | 19 => 2 | n => n⟩
theorem Tryd.laysM171 : Go.Proofs.LaysM.n171 Tryd.prog Tryd.laysM171_ren := {
  mixed := by kernel_rfl
  f129 := Tryd.func95.trans (congrArg some (by kernel_rfl))
  f171 := Tryd.func81.trans (congrArg some (by kernel_rfl))
  f243 := Tryd.func87.trans (congrArg some (by kernel_rfl))
  f246 := Tryd.func89.trans (congrArg some (by kernel_rfl))
  f283 := Tryd.func90.trans (congrArg some (by kernel_rfl))
  f284 := Tryd.func91.trans (congrArg some (by kernel_rfl))
  f285 := Tryd.func92.trans (congrArg some (by kernel_rfl))
  f286 := Tryd.func93.trans (congrArg some (by kernel_rfl))
  f317 := Tryd.func94.trans (congrArg some (by kernel_rfl))
  f318 := Tryd.func96.trans (congrArg some (by kernel_rfl))
  f319 := Tryd.func97.trans (congrArg some (by kernel_rfl))
  f320 := Tryd.func98.trans (congrArg some (by kernel_rfl))
  f337 := Tryd.func99.trans (congrArg some (by kernel_rfl))
  f338 := Tryd.func100.trans (congrArg some (by kernel_rfl))
  t0 := Tryd.underlying0
  a0 := Tryd.isAgg0
  z0 := Tryd.sizeOf0
  v0 := Tryd.zeroValue0
  t2 := Tryd.underlying2
  a2 := Tryd.isAgg2
  z2 := Tryd.sizeOf2
  v2 := Tryd.zeroValue2
  t3 := Tryd.underlying3
  a3 := Tryd.isAgg3
  z3 := Tryd.sizeOf3
  v3 := Tryd.zeroValue3
  t4 := Tryd.underlying4
  a4 := Tryd.isAgg4
  z4 := Tryd.sizeOf4
  v4 := Tryd.zeroValue4
  t5 := Tryd.underlying5
  a5 := Tryd.isAgg5
  z5 := Tryd.sizeOf5
  v5 := Tryd.zeroValue5
  t9 := Tryd.underlying9
  a9 := Tryd.isAgg9
  z9 := Tryd.sizeOf9
  v9 := Tryd.zeroValue9
  t20 := Tryd.underlying20
  a20 := Tryd.isAgg20
  z20 := Tryd.sizeOf20
  v20 := Tryd.zeroValue20
  t37 := Tryd.underlying106
  a37 := Tryd.isAgg106
  z37 := Tryd.sizeOf106
  v37 := Tryd.zeroValue106
  t46 := Tryd.underlying153
  a46 := Tryd.isAgg153
  z46 := Tryd.sizeOf153
  v46 := Tryd.zeroValue153
  t51 := Tryd.underlying151
  a51 := Tryd.isAgg151
  z51 := Tryd.sizeOf151
  v51 := Tryd.zeroValue151
  t53 := Tryd.underlying144
  a53 := Tryd.isAgg144
  z53 := Tryd.sizeOf144
  v53 := Tryd.zeroValue144
  t171 := Tryd.underlying143
  a171 := Tryd.isAgg143
  z171 := Tryd.sizeOf143
  v171 := Tryd.zeroValue143
  t173 := Tryd.underlying147
  a173 := Tryd.isAgg147
  z173 := Tryd.sizeOf147
  v173 := Tryd.zeroValue147
  t212 := Tryd.underlying150
  a212 := Tryd.isAgg150
  z212 := Tryd.sizeOf150
  v212 := Tryd.zeroValue150
  t213 := Tryd.underlying152
  a213 := Tryd.isAgg152
  z213 := Tryd.sizeOf152
  t232 := Tryd.underlying156
  a232 := Tryd.isAgg156
  z232 := Tryd.sizeOf156
  v232 := Tryd.zeroValue156
  t233 := Tryd.underlying157
  a233 := Tryd.isAgg157
  z233 := Tryd.sizeOf157
  v233 := Tryd.zeroValue157
  g17 := by kernel_rfl
  g18 := by kernel_rfl
  g19 := by kernel_rfl
  i0 := by kernel_rfl
  i2 := by kernel_rfl
  i3 := by kernel_rfl
  i4 := by kernel_rfl
  i5 := by kernel_rfl
  i9 := by kernel_rfl
  i20 := by kernel_rfl
  i37 := by kernel_rfl
  i46 := by kernel_rfl
  i51 := by kernel_rfl
  i53 := by kernel_rfl
  i171 := by kernel_rfl
  i173 := by kernel_rfl
  i212 := by kernel_rfl
  i232 := by kernel_rfl
  i233 := by kernel_rfl
  m17 := by kernel_rfl
  m18 := by kernel_rfl
  m19 := by kernel_rfl }
open Go.RowKit Go.Sort Go.Lib in
/-- strconv.Itoa: "Itoa is equivalent to FormatInt(int64(i), 10).": i's DECIMAL NUMERAL ('Lib.itoa': a '-' where i is negative, then the digits), FOR EVERY int. The world behind the call: the world before it, new blocks behind the heap (the library's 'var a [24]byte'), draws. (LAID: no walk: one application.) -/
theorem Tryd.strconv_Itoa (n : Int) (h0 : -9223372036854775808 ≤ n) (h1 : n ≤ 9223372036854775807) (w : World) (htab : Lib.TabIs Tryd.prog w "internal/strconv.uint64pow10" .u64 Lib.pow10Tab) :
    Calls Tryd.prog 81 #[.int .i64 n] w fun e w' => e = .returned (.string ⟨(Lib.itoa n).toArray⟩) ∧ ∃ k os, w' = grow (w.drewN k) os := Any.strconv_Itoa Tryd.laysM171 n h0 h1 w htab
def Tryd.lays171_ren : Go.Shelf.Ren := ⟨fun | 171 => 81 | 243 => 87 | 246 => 89 | 283 => 90 | 284 => 91 | 285 => 92 | 286 => 93 | 129 => 95 | 317 => 94 | 318 => 96 | 319 => 97 | 320 => 98 | 337 => 99 | 338 => 100 | n => n, fun | 3 => 3 | 9 => 9 | 2 => 2 | 4 => 4 | 171 => 143 | 0 => 0 | 53 => 144 | 37 => 106 | 5 => 5 | 173 => 147 | 212 => 150 | 51 => 151 | 20 => 20 | 213 => 152 | 46 => 153 | 232 => 156 | 233 => 157 | n => n, fun | 17 => 0 | 18 => 1 | 19 => 2 | n => n⟩
theorem Tryd.lays171 : Go.Proofs.Lays.n171 Tryd.prog Tryd.lays171_ren := {
  mixed := by kernel_rfl
  f129 := Tryd.func95.trans (congrArg some (by kernel_rfl))
  f171 := Tryd.func81.trans (congrArg some (by kernel_rfl))
  f243 := Tryd.func87.trans (congrArg some (by kernel_rfl))
  f246 := Tryd.func89.trans (congrArg some (by kernel_rfl))
  f283 := Tryd.func90.trans (congrArg some (by kernel_rfl))
  f284 := Tryd.func91.trans (congrArg some (by kernel_rfl))
  f285 := Tryd.func92.trans (congrArg some (by kernel_rfl))
  f286 := Tryd.func93.trans (congrArg some (by kernel_rfl))
  f317 := Tryd.func94.trans (congrArg some (by kernel_rfl))
  f318 := Tryd.func96.trans (congrArg some (by kernel_rfl))
  f319 := Tryd.func97.trans (congrArg some (by kernel_rfl))
  f320 := Tryd.func98.trans (congrArg some (by kernel_rfl))
  f337 := Tryd.func99.trans (congrArg some (by kernel_rfl))
  f338 := Tryd.func100.trans (congrArg some (by kernel_rfl))
  t0 := Tryd.underlying0
  a0 := Tryd.isAgg0
  z0 := Tryd.sizeOf0
  v0 := Tryd.zeroValue0
  t2 := Tryd.underlying2
  a2 := Tryd.isAgg2
  z2 := Tryd.sizeOf2
  v2 := Tryd.zeroValue2
  t3 := Tryd.underlying3
  a3 := Tryd.isAgg3
  z3 := Tryd.sizeOf3
  v3 := Tryd.zeroValue3
  t4 := Tryd.underlying4
  a4 := Tryd.isAgg4
  z4 := Tryd.sizeOf4
  v4 := Tryd.zeroValue4
  t5 := Tryd.underlying5
  a5 := Tryd.isAgg5
  z5 := Tryd.sizeOf5
  v5 := Tryd.zeroValue5
  t9 := Tryd.underlying9
  a9 := Tryd.isAgg9
  z9 := Tryd.sizeOf9
  v9 := Tryd.zeroValue9
  t20 := Tryd.underlying20
  a20 := Tryd.isAgg20
  z20 := Tryd.sizeOf20
  v20 := Tryd.zeroValue20
  t37 := Tryd.underlying106
  a37 := Tryd.isAgg106
  z37 := Tryd.sizeOf106
  v37 := Tryd.zeroValue106
  t46 := Tryd.underlying153
  a46 := Tryd.isAgg153
  z46 := Tryd.sizeOf153
  v46 := Tryd.zeroValue153
  t51 := Tryd.underlying151
  a51 := Tryd.isAgg151
  z51 := Tryd.sizeOf151
  v51 := Tryd.zeroValue151
  t53 := Tryd.underlying144
  a53 := Tryd.isAgg144
  z53 := Tryd.sizeOf144
  v53 := Tryd.zeroValue144
  t171 := Tryd.underlying143
  a171 := Tryd.isAgg143
  z171 := Tryd.sizeOf143
  v171 := Tryd.zeroValue143
  t173 := Tryd.underlying147
  a173 := Tryd.isAgg147
  z173 := Tryd.sizeOf147
  v173 := Tryd.zeroValue147
  t212 := Tryd.underlying150
  a212 := Tryd.isAgg150
  z212 := Tryd.sizeOf150
  v212 := Tryd.zeroValue150
  t213 := Tryd.underlying152
  a213 := Tryd.isAgg152
  z213 := Tryd.sizeOf152
  t232 := Tryd.underlying156
  a232 := Tryd.isAgg156
  z232 := Tryd.sizeOf156
  v232 := Tryd.zeroValue156
  t233 := Tryd.underlying157
  a233 := Tryd.isAgg157
  z233 := Tryd.sizeOf157
  v233 := Tryd.zeroValue157
  g17 := by kernel_rfl
  g18 := by kernel_rfl
  g19 := by kernel_rfl }
open Go.RowKit Go.Sort Go.Lib in
/-- THE ROAD WITHOUT THE TABLE: 0 <= i < 100: NO PREMISE ON THE WORLD, AND THE WORLD IS AS IT WAS: a row that keeps its argument in that range need list no table ('laid = []'). (LAID: no walk: one application.) -/
theorem Tryd.strconv_Itoa_small (i : Nat) (hi : i < 100) (w : World) :
    Calls Tryd.prog 81 #[.int .i64 i] w fun e w' => e = .returned (.string ⟨(Lib.decDigits i).toArray⟩) ∧ w' = w := Any.strconv_Itoa_small Tryd.lays171 i hi w
def Tryd.lays112_ren : Go.Shelf.Ren := ⟨fun | 112 => 78 | n => n, fun | 28 => 35 | 3 => 3 | 4 => 4 | 0 => 0 | n => n, fun | n => n⟩
theorem Tryd.lays112 : Go.Proofs.Lays.n112 Tryd.prog Tryd.lays112_ren := {
  mixed := by kernel_rfl
  f112 := Tryd.func78.trans (congrArg some (by kernel_rfl))
  t0 := Tryd.underlying0
  a0 := Tryd.isAgg0
  z0 := Tryd.sizeOf0
  v0 := Tryd.zeroValue0
  t3 := Tryd.underlying3
  a3 := Tryd.isAgg3
  z3 := Tryd.sizeOf3
  v3 := Tryd.zeroValue3
  t4 := Tryd.underlying4
  a4 := Tryd.isAgg4
  z4 := Tryd.sizeOf4
  v4 := Tryd.zeroValue4
  t28 := Tryd.underlying35
  a28 := Tryd.isAgg35
  z28 := Tryd.sizeOf35
  v28 := Tryd.zeroValue35 }
open Go.RowKit Go.Lib Go.Sort in
/-- slices.Reverse at []int, over an array: Go's loop from the two ends inward is walked; it makes 'Sort.reverseLoop 0 (len - 1)', which is 'Array.reverse' (Derived/Lib/SlicesMore.lean). (LAID: no walk: one application.) -/
theorem Tryd.slices_Reverse_int_arr (blk off cap : Nat) (d : Array Int) (w : World) (hH : Holds encI w blk off d) (hsz : d.size ≤ 9223372036854775807) :
    Calls Tryd.prog 78 #[.slice (some ⟨blk, off, none⟩) d.size cap] w fun e w' => e = .returned (.tuple #[]) ∧ ∃ n, w' = putRow encI (Sort.ahead w n) blk off d.reverse := Any.slices_Reverse_int_arr Tryd.lays112 blk off cap d w hH hsz
open Go.RowKit Go.Lib Go.Sort in
/-- slices.Reverse at []int: "Reverse reverses the elements of the slice in place.": THE SLICE's CELLS HOLD 'zs.reverse' BEHIND THE CALL; all else is as it was, but for the count of draws (the exchange 's[i], s[j] = s[j], s[i]' draws its order, once a round). IN THE WORDS OF slices.Sort's CONTRACT: 'Holds': the cells hold zs and none is frozen; 'putRow': the world with those cells holding another array. A slice of length 0 that is not nil is among them ('zs = []'); nil: '.._nil'. (LAID: no walk: one application.) -/
theorem Tryd.slices_Reverse_int (blk off cap : Nat) (zs : List Int) (w : World) (hH : Holds (Value.int .i64) w blk off zs.toArray) (hsz : zs.length ≤ 9223372036854775807) :
    Calls Tryd.prog 78 #[.slice (some ⟨blk, off, none⟩) zs.length cap] w fun e w' => e = .returned (.tuple #[]) ∧ ∃ n, w' = putRow (Value.int .i64) (Sort.ahead w n) blk off zs.reverse.toArray := Any.slices_Reverse_int Tryd.lays112 blk off cap zs w hH hsz
open Go.RowKit Go.Lib Go.Sort in
/-- The same at a slice of length 0, a nil one too: nothing is read, nothing written, nothing drawn. (LAID: no walk: one application.) -/
theorem Tryd.slices_Reverse_int_empty (a : Option Addr) (cap : Nat) (w : World) :
    Calls Tryd.prog 78 #[.slice a 0 cap] w fun e w' => e = .returned (.tuple #[]) ∧ w' = w := Any.slices_Reverse_int_empty Tryd.lays112 a cap w
def Tryd.grow85_ren : Go.Shelf.Ren := ⟨fun | 4 => 85 | n => n, fun | 22 => 32 | 25 => 69 | 3 => 3 | 4 => 4 | 9 => 9 | 20 => 20 | 0 => 0 | n => n, fun | n => n⟩
theorem Tryd.grow85 : Go.Proofs.Lays8.n4 Tryd.prog Tryd.grow85_ren := {
  mixed := by kernel_rfl
  f4 := ⟨Tryd.f85.name, by decide, Tryd.func85.trans (congrArg some (by kernel_rfl))⟩
  t0 := Tryd.underlying0
  a0 := Tryd.isAgg0
  z0 := Tryd.sizeOf0
  v0 := Tryd.zeroValue0
  t3 := Tryd.underlying3
  a3 := Tryd.isAgg3
  z3 := Tryd.sizeOf3
  v3 := Tryd.zeroValue3
  t4 := Tryd.underlying4
  a4 := Tryd.isAgg4
  z4 := Tryd.sizeOf4
  v4 := Tryd.zeroValue4
  t9 := Tryd.underlying9
  a9 := Tryd.isAgg9
  z9 := Tryd.sizeOf9
  v9 := Tryd.zeroValue9
  t20 := Tryd.underlying20
  a20 := Tryd.isAgg20
  z20 := Tryd.sizeOf20
  v20 := Tryd.zeroValue20
  t22 := Tryd.underlying32
  a22 := Tryd.isAgg32
  z22 := Tryd.sizeOf32
  v22 := Tryd.zeroValue32 }
end Go.Proofs

/- Package chain, mirrored: each of its functions as a plain function on lists, in its own steps. A search that has no bound of its own takes fuel. -/
namespace Ch

/-- a link -/
structure Lk where
  f : Int
  t : Int
  m : Int

def free : Int := 1152921504606846976
def top : Int := 4503599627370496
def noLk : Lk := ⟨0, 0, 0⟩

def isIx (i c : Int) : Bool := decide (0 ≤ i) && decide (i < c)
def okLk (n : Int) (l : Lk) : Bool := isIx l.f n && isIx l.t n && l.f != l.t && decide (-top ≤ l.m) && decide (l.m ≤ top)
def sameLk (a b : Lk) : Bool := a.f == b.f && a.t == b.t && a.m == b.m

/-- the first link that is not valid, from the k-th on -/
def bad (n : Int) : List Lk → Nat → Option Nat
  | [], _ => none
  | l :: r, k => if okLk n l then bad n r (k + 1) else some k

/-- Check: the error, the index -/
def check (n : Int) (L : List Lk) : Int × Int :=
  if n < 1 ∨ 60 < n then (1, -1) else if 300 < L.length then (2, -1) else
  match bad n L 0 with
  | some k => (1, k)
  | none => (0, -1)

theorem drop_at {L : List Lk} {k : Nat} (h : k < L.length) : L.drop k = L.getD k noLk :: L.drop (k + 1) := by
  rw [List.drop_eq_getElem_cons h, List.getD, List.getElem?_eq_getElem h]; rfl
theorem bad_step {n : Int} {L : List Lk} {k : Nat} (h : k < L.length) : bad n (L.drop k) k = if okLk n (L.getD k noLk) then bad n (L.drop (k + 1)) (k + 1) else some k := by
  rw [drop_at h, bad]
theorem check_mid {n : Int} {L : List Lk} (h0 : ¬ n < 1) (h1 : ¬ 60 < n) (h2 : ¬ 300 < L.length) : check n L = match bad n L 0 with | some k => (1, (k : Int)) | none => (0, -1) := by
  unfold check
  rw [if_neg (by omega), if_neg h2]
theorem check_n {n : Int} {L : List Lk} (h : n < 1 ∨ 60 < n) : check n L = (1, -1) := by unfold check; rw [if_pos h]
theorem check_l {n : Int} {L : List Lk} (h : ¬ (n < 1 ∨ 60 < n)) (h2 : 300 < L.length) : check n L = (2, -1) := by unfold check; rw [if_neg h, if_pos h2]

theorem bad_none {n : Int} : ∀ {L : List Lk} {k : Nat}, bad n L k = none → ∀ j, j < L.length → okLk n (L.getD j noLk) = true
  | [], _, _, j, hj => by simp at hj
  | l :: r, k, h, j, hj => by
    rw [bad] at h
    split at h
    · rename_i h1
      cases j with
      | zero => exact h1
      | succ j => exact bad_none h j (by simpa using hj)
    · cases h
theorem check_ok {n : Int} {L : List Lk} (h : (check n L).1 = 0) : 1 ≤ n ∧ n ≤ 60 ∧ L.length ≤ 300 ∧ ∀ j, j < L.length → okLk n (L.getD j noLk) = true := by
  unfold check at h
  split at h
  · simp at h
  · split at h
    · simp at h
    · split at h
      · simp at h
      · rename_i h1 h2 _ h3
        exact ⟨by omega, by omega, by omega, bad_none h3⟩
theorem okLk_spec {n : Int} {l : Lk} (h : okLk n l = true) : 0 ≤ l.f ∧ l.f < n ∧ 0 ≤ l.t ∧ l.t < n ∧ l.f ≠ l.t ∧ -4503599627370496 ≤ l.m ∧ l.m ≤ 4503599627370496 := by
  unfold okLk isIx top at h
  simp at h
  omega

/-- checkIndices -/
def ixErr (m : Nat) (l : List Int) : Int := if 80 < l.length then 2 else if l.all (fun i => isIx i m) then 0 else 1
theorem all_at {p : Int → Bool} {l : List Int} {k : Nat} (h : k < l.length) : (l.drop k).all p = (p (l.getD k 0) && (l.drop (k + 1)).all p) := by
  rw [List.drop_eq_getElem_cons h, List.all_cons, List.getD, List.getElem?_eq_getElem h]; rfl

/-- a value beyond all sums -/
def far (v : Int) : Bool := decide (v < -free) || decide (free < v)
theorem any_at {p : Int → Bool} {l : List Int} {k : Nat} (h : k < l.length) : (l.drop k).any p = (p (l.getD k 0) || (l.drop (k + 1)).any p) := by
  rw [List.drop_eq_getElem_cons h, List.any_cons, List.getD, List.getElem?_eq_getElem h]; rfl
theorem any_far {l : List Int} (h : l.any far = false) : ∀ k, k < l.length → -1152921504606846976 ≤ l.getD k 0 ∧ l.getD k 0 ≤ 1152921504606846976 := by
  intro k hk
  rw [List.any_eq_false] at h
  have := h (l.getD k 0) (by rw [List.getD, List.getElem?_eq_getElem hk]; exact List.getElem_mem hk)
  generalize l.getD k 0 = z at this ⊢
  unfold far free at this
  simp at this
  omega
def solves : List Lk → List Int → Bool
  | [], _ => true
  | l :: r, x => if x.getD l.f.toNat 0 + l.m < x.getD l.t.toNat 0 then false else solves r x
theorem solves_at {L : List Lk} {x : List Int} {k : Nat} (h : k < L.length) : solves (L.drop k) x = if x.getD (L.getD k noLk).f.toNat 0 + (L.getD k noLk).m < x.getD (L.getD k noLk).t.toNat 0 then false else solves (L.drop (k + 1)) x := by
  rw [drop_at h, solves]
/-- Fits -/
def fits (n : Int) (L : List Lk) (x : List Int) : Bool × Int :=
  if (check n L).1 ≠ 0 then (false, (check n L).1) else
  if (x.length : Int) ≠ n ∨ x.any far = true then (false, 1) else
  if solves L x then (x.getD 0 0 == 0, 0) else (false, 0)

/-- the indices of the links into a node -/
def into (L : List Lk) (v : Nat) : List Nat := (List.range L.length).filter fun i => (L.getD i noLk).t == (v : Int)
/-- .. of the first k links -/
def intoK (L : List Lk) (k v : Nat) : List Nat := (List.range k).filter fun i => (L.getD i noLk).t == (v : Int)
theorem intoK_all (L : List Lk) (v : Nat) : intoK L L.length v = into L v := rfl
theorem intoK_zero (L : List Lk) (v : Nat) : intoK L 0 v = [] := rfl
theorem intoK_hit {L : List Lk} {k v : Nat} (h : (L.getD k noLk).t = (v : Int)) : intoK L (k + 1) v = intoK L k v ++ [k] := by
  unfold intoK
  rw [List.range_succ, List.filter_append]
  congr 1
  rw [List.filter_cons, h]
  simp
theorem intoK_miss {L : List Lk} {k v : Nat} (h : (L.getD k noLk).t ≠ (v : Int)) : intoK L (k + 1) v = intoK L k v := by
  unfold intoK
  rw [List.range_succ, List.filter_append]
  have : [k].filter (fun i => (L.getD i noLk).t == (v : Int)) = [] := by
    rw [List.filter_cons, show ((L.getD k noLk).t == (v : Int)) = false by rw [beq_eq_false_iff_ne]; exact h]
    simp
  rw [this, List.append_nil]
theorem intoK_len (L : List Lk) (k v : Nat) : (intoK L k v).length ≤ k := by
  unfold intoK
  have := List.length_filter_le (fun i => (L.getD i noLk).t == (v : Int)) (List.range k)
  simpa using this

/-- the links into a node that are not left out -/
def linksInto (L : List Lk) (drop : List Bool) (v : Nat) : List Lk := ((into L v).filter fun i => !drop.getD i false).map fun i => L.getD i noLk

/-- what settle holds: sums, who waits, links, the queue -/
structure St where
  s : List Int
  w : List Bool
  c : List Int
  q : List Nat

/-- a link in front of the chains of the node u; none: it has as many links as there are nodes -/
def relax (n : Nat) (u : Nat) (l : Lk) (x : St) : Option St :=
  if x.s.getD l.f.toNat 0 ≤ x.s.getD u 0 + l.m then some x else
  if x.c.getD u 0 + 1 = (n : Int) then none else
  if x.w.getD l.f.toNat false then some { x with s := x.s.set l.f.toNat (x.s.getD u 0 + l.m), c := x.c.set l.f.toNat (x.c.getD u 0 + 1) } else
  some ⟨x.s.set l.f.toNat (x.s.getD u 0 + l.m), x.w.set l.f.toNat true, x.c.set l.f.toNat (x.c.getD u 0 + 1), x.q ++ [l.f.toNat]⟩

def relaxAll (n u : Nat) : List Lk → St → Option St
  | [], x => some x
  | l :: r, x => match relax n u l x with
    | none => none
    | some y => relaxAll n u r y

/-- settle: none: the fuel was too little; some none: it gave up -/
def settleGo (n : Nat) (L : List Lk) (drop : List Bool) : Nat → St → Option (Option (List Int))
  | 0, _ => none
  | k + 1, x => match x.q with
    | [] => some (some x.s)
    | u :: q => match relaxAll n u (linksInto L drop u) { x with w := x.w.set u false, q := q } with
      | none => some none
      | some y => settleGo n L drop k y

/-- how settle begins: the nodes whose sum is known wait -/
def settle0 (s : List Int) : St :=
  ⟨s, (List.range 60).map fun v => decide (v < s.length) && s.getD v 0 != free, List.replicate 60 0, (List.range s.length).filter fun v => s.getD v 0 != free⟩
def settle (n : Nat) (L : List Lk) (drop : List Bool) (k : Nat) (s : List Int) : Option (Option (List Int)) := settleGo n L drop k (settle0 s)

def levels (n : Nat) (L : List Lk) (drop : List Bool) (k : Nat) : Option (Option (List Int)) := settle n L drop k (List.replicate n 0)
def unbound (n : Nat) : List Int := List.replicate n free
def boundsTo (n : Nat) (L : List Lk) (drop : List Bool) (k : Nat) (v : Nat) : Option (Option (List Int)) := settle n L drop k ((unbound n).set v 0)

/-- one link more in front -/
def lengthen (n : Nat) (L : List Lk) (drop : List Bool) (s : List Int) : List Int :=
  (List.range n).foldl (fun acc v => if s.getD v 0 = free then acc else (linksInto L drop v).foldl (fun a l => a.set l.f.toNat (min (a.getD l.f.toNat 0) (s.getD v 0 + l.m))) acc) (unbound n)
def sumsTo (n : Nat) (L : List Lk) (drop : List Bool) (v : Nat) : Nat → List Int
  | 0 => (unbound n).set v 0
  | k + 1 => lengthen n L drop (sumsTo n L drop v k)

/-- the first index from 'at' on of a link from a node that can begin the rest -/
def firstLk (L : List Lk) (rest : List Int) (u : Nat) (most : Int) : Option Nat := (List.range L.length).find? fun i => (L.getD i noLk).f == (u : Int) && decide (rest.getD (L.getD i noLk).t.toNat 0 ≤ most - (L.getD i noLk).m)
def firstChain (n : Nat) (L : List Lk) (drop : List Bool) (v : Nat) : Nat → Nat → Int → List Nat
  | 0, _, _ => []
  | k + 1, u, most => match firstLk L (sumsTo n L drop v k) u most with
    | none => []
    | some i => i :: firstChain n L drop v k (L.getD i noLk).t.toNat (most - (L.getD i noLk).m)

/-- the sum of a chain, and whether it is one from u to v -/
def follow (L : List Lk) (v : Int) : List Int → Int → Int → Int × Bool
  | [], u, sum => (sum, u == v)
  | i :: r, u, sum => if (L.getD i.toNat noLk).f != u then (0, false) else follow L v r (L.getD i.toNat noLk).t (sum + (L.getD i.toNat noLk).m)

theorem follow_at {L : List Lk} {v u sum : Int} {l : List Int} {k : Nat} (h : k < l.length) : follow L v (l.drop k) u sum = if (L.getD (l.getD k 0).toNat noLk).f != u then (0, false) else follow L v (l.drop (k + 1)) (L.getD (l.getD k 0).toNat noLk).t (sum + (L.getD (l.getD k 0).toNat noLk).m) := by
  have e : l[k] = l.getD k 0 := by rw [List.getD, List.getElem?_eq_getElem h]; rfl
  rw [List.drop_eq_getElem_cons h, follow, e]

/-- where a list of indices starts -/
def start (L : List Lk) (l : List Int) : Int := (L.getD (l.getD 0 0).toNat noLk).f
/-- CheckClash -/
def checkClash (n : Int) (L : List Lk) (l : List Int) : Int :=
  if (check n L).1 ≠ 0 then (check n L).1 else if ixErr L.length l ≠ 0 then ixErr L.length l else if l = [] then 8 else
  if (follow L (start L l) l (start L l) 0).2 = true ∧ (follow L (start L l) l (start L l) 0).1 < 0 then 0 else 8
/-- CheckChain -/
def checkChain (n : Int) (L : List Lk) (u v : Int) (l : List Int) : Int × Int :=
  if (check n L).1 ≠ 0 then (0, (check n L).1) else if ¬ (isIx u n = true ∧ isIx v n = true) then (0, 1) else if ixErr L.length l ≠ 0 then (0, ixErr L.length l) else
  if (follow L v l u 0).2 = true then ((follow L v l u 0).1, 0) else (0, 8)
theorem ix_ok {m : Nat} {l : List Int} (h : ixErr m l = 0) : l.length ≤ 80 ∧ ∀ k, k < l.length → 0 ≤ l.getD k 0 ∧ l.getD k 0 < (m : Int) := by
  unfold ixErr at h
  split at h
  · simp at h
  · split at h
    · rename_i h1 h2
      refine ⟨by omega, fun k hk => ?_⟩
      rw [List.all_eq_true] at h2
      have := h2 (l.getD k 0) (by rw [List.getD, List.getElem?_eq_getElem hk]; exact List.getElem_mem hk)
      unfold isIx at this
      simpa using this
    · simp at h

def turned (L : List Lk) : List Lk := L.map fun l => ⟨l.t, l.f, l.m⟩
def hasTwin (L : List Lk) (drop : List Bool) (w : Nat) : Bool := (List.range L.length).any fun i => i != w && !drop.getD i false && sameLk (L.getD i noLk) (L.getD w noLk)

/-! ### the chapter's examples -/
def exL : List Lk := [⟨0, 1, 5⟩, ⟨1, 2, 3⟩, ⟨0, 2, 9⟩, ⟨2, 0, -6⟩, ⟨2, 1, -2⟩]
def no5 : List Bool := List.replicate 5 false
theorem ex_check : check 4 exL = (0, -1) := by decide
theorem ex_levels : levels 4 exL no5 40 = some (some [0, -3, -6, 0]) := by decide +kernel
theorem ex_to2 : boundsTo 4 exL no5 40 2 = some (some [8, 3, 0, free]) := by decide +kernel
theorem ex_to0 : boundsTo 4 exL no5 40 0 = some (some [0, -3, -6, free]) := by decide +kernel
end Ch
