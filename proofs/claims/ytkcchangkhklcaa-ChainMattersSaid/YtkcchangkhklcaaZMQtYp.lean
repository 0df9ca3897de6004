/- Several texts one behind the other. -/
import Derived.Test.YtkcchangkhklcaaZMYsQa
import Derived.Test.YtkcchangkhklcaaZMFqFv
import Derived.BigRegion
import Derived.BigQuiet
import Derived.Test.YtkcchangkhklcaaZ06
set_option linter.unusedSimpArgs false
set_option linter.unusedVariables false
/- Contracts of the specification: Tight. -/
namespace Go.Proofs.Ytkcchangkhklcaa
open Go.RowKit

/-- the world in Tight: the system in its box, the table -/
structure TQ (w : World) (a : Option Addr) (m cap : Nat) (L : List Ch.Lk) (N ob : Nat) (R : Nat → Nat) (D : Nat → Nat → Int) (W : World) : Prop where
  t : TB2 N ob R D W
  c0 : W.cell? ⟨w.heap.size, 0, none⟩ = some (.int .i64 N)
  c1 : W.cell? ⟨w.heap.size, 1, none⟩ = some (.slice a m cap)
  l : LksAt W a L
  b : Below w.heap.size w W
  lo : ∀ u, u < N → w.heap.size < R u
theorem TQ.below {w W W' : World} {a : Option Addr} {m cap : Nat} {L : List Ch.Lk} {N ob : Nat} {R : Nat → Nat} {D : Nat → Nat → Int} (h : TQ w a m cap L N ob R D W) (hb : Below W.heap.size W W') : TQ w a m cap L N ob R D W' :=
  ⟨h.t.below hb, kept1 h.c0 hb, kept1 h.c1 hb, h.l.below hb, h.b.trans (hb.mono h.b.size), h.lo⟩
theorem TQ.congr {w W : World} {a : Option Addr} {m cap : Nat} {L : List Ch.Lk} {N ob : Nat} {R : Nat → Nat} {D E : Nat → Nat → Int} (h : TQ w a m cap L N ob R D W) (e : ∀ u v, u < N → v < N → D u v = E u v) : TQ w a m cap L N ob R E W := ⟨h.t.congr e, h.c0, h.c1, h.l, h.b, h.lo⟩
theorem TQ.set {w W : World} {a : Option Addr} {m cap : Nat} {L : List Ch.Lk} {N ob : Nat} {R : Nat → Nat} {D : Nat → Nat → Int} (h : TQ w a m cap L N ob R D W) (hw : LksAt w a L) {u v : Nat} (hu : u < N) (z : Int) : TQ w a m cap L N ob R (fun x y => if x = u ∧ y = v then z else D x y) (W.setCell ⟨R u, v, none⟩ (.int .i64 z)) := by
  have hlo := h.lo u hu
  have hb := h.b.setCell (p := ⟨R u, v, none⟩) (Nat.le_of_lt hlo) (.int .i64 z)
  exact ⟨h.t.set hu z, cell_set_ne h.c0 (by show w.heap.size ≠ R u; omega), cell_set_ne h.c1 (by show w.heap.size ≠ R u; omega), hw.below hb, hb, h.lo⟩

/-- what Tight of the specification leaves -/
def RtPost (w : World) (n : Nat) (L : List Ch.Lk) (e : Ending) (w' : World) : Prop :=
  Below w.heap.size w w' ∧ ((¬ (∃ σ, Ch.Sol L [] σ) ∧ e = .returned (.tuple #[.slice none 0 0, .bool false])) ∨
    ((∃ σ, Ch.Sol L [] σ) ∧ ∃ ob cap R, e = .returned (.tuple #[.slice (some ⟨ob, 0, none⟩) n cap, .bool true]) ∧ TB2 n ob R (Ch.fyT n L) w'))

set_option maxRecDepth 100000 in
set_option maxHeartbeats 16000000 in
theorem rtight_any (n : Int) (a : Option Addr) (m cap : Nat) (L : List Ch.Lk) (hm : Hid (L.length = m)) (hc : (Ch.check n L).1 = 0) (w : World) (hL : Hid (LksAt w a L)) :
    Calls Try.prog 15 #[sysV n a m cap] w (RtPost w n.toNat L) := by
  obtain ⟨n1, n2, n3, hok⟩ := Ch.check_ok hc
  obtain ⟨N, rfl⟩ : ∃ N : Nat, n = (N : Int) := ⟨n.toNat, by omega⟩
  simp only [Int.toNat_natCast]
  have hm3 : m ≤ 300 := by have := hm.out; omega
  have HFl := Lib.hid fun (W : World) => filled_any N (by omega) (by omega) W
  have hok9 := Lib.hid hok
  unfold sysV at *
  clear hc hok
  go_enter Try.func15, Try.ntmps15
  go_wp2_with fail
  refine (HFl.out _).mono ?_
  rintro e w1 ⟨ob, tc, R, rfl, ht, hb, hob, hR⟩
  have hB := bstep1 (Below.refl _ _) hb
  have hTQ : Hid (TQ w a m cap L N ob R (fun u v => Ch.fz (Ch.fyK L 0 u v)) w1) := Lib.hid ⟨ht.congr (fun u v _ _ => Ch.fz_start.symm), kept1 (by simp [go_sem]) hb, kept1 (by simp [go_sem]) hb, hL.out.below hB, hB, fun u hu => by have := hR u hu; simp at this; omega⟩
  clear hb hB ht hob hR HFl
  go_wp2
  go_loopw [5] (fun i wr => ∃ k : Nat, k ≤ m ∧ i = .int .i64 k ∧ Hid (TQ w a m cap L N ob R (fun u v => Ch.fz (Ch.fyK L k u v)) wr)) (fun i _ => m - (RowKit.intOf i).toNat)
  case atStart => exact ⟨0, Nat.zero_le _, rfl, hTQ⟩
  case round =>
    clear hTQ
    obtain ⟨k, hk, rfl, HT⟩ := hrel
    have k0 := HT.out.c0
    have k1 := HT.out.c1
    by_cases hlt : k < m
    · have hi5 : (k : Int) < (m : Int) := by omega
      have hi6 : (0 : Int) ≤ (k : Int) := by omega
      obtain ⟨y, rfl, g0, g1, g2⟩ := HT.out.l k (by have := hm.out; omega)
      have hok1 := Ch.okLk_spec (hok9.out k (by have := hm.out; omega))
      obtain ⟨f, t, mo, hlk⟩ : ∃ f t mo, L.getD k Ch.noLk = ⟨f, t, mo⟩ := ⟨_, _, _, rfl⟩
      have hfz := fun (u v : Nat) => Ch.fz_link (D := Ch.fyK L k) (l := L.getD k Ch.noLk) (a := u) (b := v) (by omega)
      rw [hlk] at g0 g1 g2 hok1 hfz
      simp only at hok1 g0 g1 g2 hfz
      obtain ⟨o1, o2, o3, o4, _, o6, o7⟩ := hok1
      obtain ⟨p, rfl⟩ : ∃ u : Nat, f = (u : Int) := ⟨f.toNat, by omega⟩
      obtain ⟨q, rfl⟩ : ∃ v : Nat, t = (v : Int) := ⟨t.toNat, by omega⟩
      simp only [Int.toNat_natCast] at hfz
      have hp : p < N := by omega
      have hq : q < N := by omega
      go_upto_region 6 with fail
      have HX := Lib.hid (HT.out.below ((Below.refl _ _).alloc (Nat.le_refl _) (Obj.cells #[.int .i64 (p : Int), .int .i64 (q : Int), .int .i64 mo] 58)))
      have l0 : (wr.alloc (Obj.cells #[.int .i64 (p : Int), .int .i64 (q : Int), .int .i64 mo] 58)).cell? ⟨wr.heap.size, 0, none⟩ = some (.int .i64 (p : Int)) := by simp [go_sem]
      have l1 : (wr.alloc (Obj.cells #[.int .i64 (p : Int), .int .i64 (q : Int), .int .i64 mo] 58)).cell? ⟨wr.heap.size, 1, none⟩ = some (.int .i64 (q : Int)) := by simp [go_sem]
      have l2 : (wr.alloc (Obj.cells #[.int .i64 (p : Int), .int .i64 (q : Int), .int .i64 mo] 58)).cell? ⟨wr.heap.size, 2, none⟩ = some (.int .i64 mo) := by simp [go_sem]
      clear HT k0 k1 g0 g1 g2
      generalize wr.alloc (Obj.cells #[.int .i64 (p : Int), .int .i64 (q : Int), .int .i64 mo] 58) = X at *
      generalize wr.heap.size = lb at *
      have d0 := HX.out.t.o p hp
      have d1 := HX.out.t.get hp hq
      have z1 := (HX.out.t.r p hp).frozen q
      obtain ⟨x, hx⟩ : ∃ x, Ch.fz (Ch.fyK L k p q) = x := ⟨_, rfl⟩
      rw [hx] at d1 hfz
      have HX2 := Lib.hid (((HX.out.set hL.out (v := q) hp (min x mo)).congr (E := fun u v => Ch.fz (Ch.fyK L (k + 1) u v)) (fun u v _ _ => by
        show _ = Ch.fz (Ch.fyLink (Ch.fyK L k) (L.getD k Ch.noLk) u v)
        rw [hlk, hfz])).below (Below.refl _ _).drew)
      clear HX hx hfz hlk
      go_region
      go_wp2
      go_roundw
      case rel => exact ⟨k + 1, by omega, by go_num, HX2⟩
      case measure => show m - ((k : Int) + 1).toNat < m - (k : Int).toNat; omega
    · obtain rfl : k = m := by omega
      have hi5 : ¬ (k : Int) < (k : Int) := by omega
      have hdg : Hid (∀ j u, j ≤ 0 → u < N → Ch.fyR L j u u = some 0) := Lib.hid fun j u hj hu => by
        obtain rfl : j = 0 := by omega
        exact Ch.fyK_diag hok9.out u _ (Nat.le_refl _)
      have HT0 : Hid (TQ w a k cap L N ob R (fun u v => Ch.fz (Ch.fyR L 0 u v)) wr) := Lib.hid (by have := HT.out; rw [← hm.out] at this ⊢; exact this)
      clear HT
      go_wp2
      go_loopw [7] (fun i wr => ∃ r : Nat, r ≤ N ∧ i = .int .i64 r ∧ Hid (TQ w a k cap L N ob R (fun u v => Ch.fz (Ch.fyR L r u v)) wr) ∧ Hid (∀ j u, j ≤ r → u < N → Ch.fyR L j u u = some 0)) (fun i _ => N - (RowKit.intOf i).toNat)
      case atStart => exact ⟨0, Nat.zero_le _, rfl, HT0, hdg⟩
      case round =>
        clear HT0 hdg
        obtain ⟨r, hr, rfl, HT, hdg⟩ := hrel
        have k0 := HT.out.c0
        by_cases hltr : r < N
        · have hi7 : (r : Int) < (N : Int) := by omega
          have hi8 : (0 : Int) ≤ (r : Int) := by omega
          have hsm := Lib.hid (Ch.fz_small (n := N) (by omega) hok9.out (k := r) hr (fun j hj => ⟨0, hdg.out j j (by omega) (by omega), Int.le_refl _⟩))
          have hkk := Lib.hid (hdg.out r r (Nat.le_refl _) hltr)
          have HM := Lib.hid (HT.out.congr (E := fun x y => Ch.fz (Ch.fyM L r 0 0 x y)) (fun x y _ _ => by rw [Ch.fyM_start]))
          clear HT
          go_wp2
          clear k0
          go_loopw [8] (fun i wr => ∃ u : Nat, u ≤ N ∧ i = .int .i64 u ∧ Hid (TQ w a k cap L N ob R (fun x y => Ch.fz (Ch.fyM L r u 0 x y)) wr)) (fun i _ => N - (RowKit.intOf i).toNat)
          case atStart => exact ⟨0, Nat.zero_le _, rfl, HM⟩
          case round =>
            clear HM
            obtain ⟨u, hu, rfl, HT⟩ := hrel
            have k0 := HT.out.c0
            by_cases hltu : u < N
            · have hi9 : (u : Int) < (N : Int) := by omega
              have hi10 : (0 : Int) ≤ (u : Int) := by omega
              have d0 := HT.out.t.o u hltu
              have d1 := HT.out.t.get hltu hltr
              rw [Ch.fyM_col hkk.out] at d1
              cases hx : Ch.fyR L r u r with
              | none =>
                rw [hx, Ch.fz_none] at d1
                have HT2 := Lib.hid (HT.out.congr (E := fun x y => Ch.fz (Ch.fyM L r (u + 1) 0 x y)) (fun x y _ _ => by rw [Ch.fyM_keeprow (fun v => Ch.step_skip (.inl hx))]))
                clear HT hx
                go_wp2
                go_roundw
                case rel => exact ⟨u + 1, by omega, by go_num, HT2⟩
                case measure => show N - ((u : Int) + 1).toNat < N - (u : Int).toNat; omega
              | some x =>
                have hxs := hsm.out u r
                rw [hx, Ch.fz_some] at d1
                rw [hx, Ch.fz_some] at hxs
                have hxl : -274719577269600256 ≤ x ∧ x ≤ 274719577269600256 := by
                  have h := Ch.fyR_small (n := N) (by omega) hok9.out hr (fun j hj => ⟨0, hdg.out j j (by omega) (by omega), Int.le_refl _⟩) hx
                  omega
                obtain ⟨hx1, hx2⟩ := hxl
                have hxe : (x == 1152921504606846976) = false := by rw [beq_eq_false_iff_ne]; omega
                replace hx := Lib.hid hx
                clear hxs
                go_wp2
                clear d0 d1 k0
                go_loopw [9] (fun i wr => ∃ v : Nat, v ≤ N ∧ i = .int .i64 v ∧ Hid (TQ w a k cap L N ob R (fun x y => Ch.fz (Ch.fyM L r u v x y)) wr)) (fun i _ => N - (RowKit.intOf i).toNat)
                case atStart => exact ⟨0, Nat.zero_le _, rfl, HT⟩
                case round =>
                  clear HT
                  obtain ⟨v, hv, rfl, HT⟩ := hrel
                  have k0 := HT.out.c0
                  by_cases hltv : v < N
                  · have hi11 : (v : Int) < (N : Int) := by omega
                    have hi12 : (0 : Int) ≤ (v : Int) := by omega
                    have dk := HT.out.t.o r hltr
                    have e1 := HT.out.t.get hltr hltv
                    rw [Ch.fyM_krow hkk.out] at e1
                    cases hy : Ch.fyR L r r v with
                    | none =>
                      rw [hy, Ch.fz_none] at e1
                      have HT2 := Lib.hid (HT.out.congr (E := fun x y => Ch.fz (Ch.fyM L r u (v + 1) x y)) (fun x y _ _ => by rw [Ch.fyM_keep (Ch.step_skip (.inr hy))]))
                      clear HT hy
                      go_wp2
                      go_roundw
                      case rel => exact ⟨v + 1, by omega, by go_num, HT2⟩
                      case measure => show N - ((v : Int) + 1).toNat < N - (v : Int).toNat; omega
                    | some y =>
                      rw [hy, Ch.fz_some] at e1
                      have hyl : -274719577269600256 ≤ y ∧ y ≤ 274719577269600256 := by
                        have h := Ch.fyR_small (n := N) (by omega) hok9.out hr (fun j hj => ⟨0, hdg.out j j (by omega) (by omega), Int.le_refl _⟩) hy
                        omega
                      obtain ⟨hy1, hy2⟩ := hyl
                      have hye : (y != 1152921504606846976) = true := by rw [bne_iff_ne]; omega
                      have hst := Ch.fz_step (D := Ch.fyR L r) hx.out hy (by omega)
                      have d0 := HT.out.t.o u hltu
                      have e2 := HT.out.t.get hltu hltr
                      have e3 := HT.out.t.get hltu hltv
                      have z3 := (HT.out.t.r u hltu).frozen v
                      rw [Ch.fyM_col hkk.out, hx.out, Ch.fz_some] at e2
                      rw [Ch.fyM_at] at e3
                      obtain ⟨z, hz⟩ : ∃ z, Ch.fz (Ch.fyR L r u v) = z := ⟨_, rfl⟩
                      rw [hz] at e3 hst
                      have hwr : IntKind.i64.wrap (x + y) = x + y := wrap_ok (by omega) (by omega)
                      have HT2 := Lib.hid (((HT.out.set hL.out (v := v) hltu (min z (x + y))).congr (E := fun a b => Ch.fz (Ch.fyM L r u (v + 1) a b)) (fun a b _ _ => Ch.fyM_next hst)).below (Below.refl _ _).drew)
                      clear HT hy hz hst
                      go_upto_region 18 with fail
                      clear k0
                      go_region
                      go_wp2
                      go_roundw
                      case rel => exact ⟨v + 1, by omega, by go_num, HT2⟩
                      case measure => show N - ((v : Int) + 1).toNat < N - (v : Int).toNat; omega
                  · obtain rfl : v = N := by omega
                    have hi11 : ¬ (v : Int) < (v : Int) := by omega
                    have HT2 := Lib.hid (HT.out.congr (E := fun x y => Ch.fz (Ch.fyM L r (u + 1) 0 x y)) (fun x y _ hy => by rw [Ch.fyM_row hy]))
                    clear HT
                    go_wp2
                    go_roundw
                    case rel => exact ⟨u + 1, by omega, by go_num, HT2⟩
                    case measure => show v - ((u : Int) + 1).toNat < v - (u : Int).toNat; omega
            · obtain rfl : u = N := by omega
              have hi9 : ¬ (u : Int) < (u : Int) := by omega
              have HM := Lib.hid (HT.out.congr (E := fun x y => Ch.fz (Ch.fyR L (r + 1) x y)) (fun x y hx _ => by rw [Ch.fyM_end hx]))
              clear HT hsm hkk
              go_wp2
              clear k0
              go_loopw [10] (fun i wr => ∃ v : Nat, v ≤ u ∧ i = .int .i64 v ∧ Hid (TQ w a k cap L u ob R (fun x y => Ch.fz (Ch.fyR L (r + 1) x y)) wr) ∧ Hid (∀ c, c < v → Ch.fyR L (r + 1) c c = some 0)) (fun i _ => u - (RowKit.intOf i).toNat)
              case atStart => exact ⟨0, Nat.zero_le _, rfl, HM, Lib.hid fun c hc => by omega⟩
              case round =>
                clear HM
                obtain ⟨v, hv, rfl, HT, hdv⟩ := hrel
                have k0 := HT.out.c0
                by_cases hltv : v < u
                · have hi11 : (v : Int) < (u : Int) := by omega
                  have hi12 : (0 : Int) ≤ (v : Int) := by omega
                  have d0 := HT.out.t.o v hltv
                  have d1 := HT.out.t.get hltv hltv
                  obtain ⟨z, hz, hz0⟩ := Ch.fyR_diag hok9.out v (r + 1)
                  rw [hz, Ch.fz_some] at d1
                  by_cases hneg : z < 0
                  · have hno := Lib.hid (Ch.fyR_bad hok9.out hz hneg)
                    have hBl := HT.out.b
                    clear hz HT hdv
                    go_wp2
                    go_ret2
                    exact ⟨hBl, .inl ⟨hno.out, rfl⟩⟩
                  · obtain rfl : z = 0 := by omega
                    have hdv2 : Hid (∀ c, c < v + 1 → Ch.fyR L (r + 1) c c = some 0) := Lib.hid fun c hc => by
                      by_cases e : c = v
                      · subst e; exact hz
                      · exact hdv.out c (by omega)
                    clear hz hdv
                    go_wp2
                    go_roundw
                    case rel => exact ⟨v + 1, by omega, by go_num, HT, hdv2⟩
                    case measure => show u - ((v : Int) + 1).toNat < u - (v : Int).toNat; omega
                · obtain rfl : v = u := by omega
                  have hi11 : ¬ (v : Int) < (v : Int) := by omega
                  have hdg2 : Hid (∀ j c, j ≤ r + 1 → c < v → Ch.fyR L j c c = some 0) := Lib.hid fun j c hj hc => by
                    by_cases e : j = r + 1
                    · subst e; exact hdv.out c hc
                    · exact hdg.out j c (by omega) hc
                  clear hdv hdg
                  go_wp2
                  go_roundw
                  case rel => exact ⟨r + 1, by omega, by go_num, HT, hdg2⟩
                  case measure => show v - ((r : Int) + 1).toNat < v - (r : Int).toNat; omega
        · obtain rfl : r = N := by omega
          have hi7 : ¬ (r : Int) < (r : Int) := by omega
          have hBl := HT.out.b
          have hT9 := Lib.hid HT.out.t
          have hyes := Lib.hid ((Ch.fyR_ok hok9.out).1 hdg.out)
          clear HT hdg
          go_wp2
          go_ret2
          exact ⟨hBl, .inr ⟨hyes.out, ob, tc, R, rfl, hT9.out⟩⟩
end Go.Proofs.Ytkcchangkhklcaa

/- append of links, inside a region that draws its order. -/
namespace Go.Proofs.Ytkcchangkhklcaa
open Go.RowKit

/-- append of links that lie in a row, to links of one's own, inside a region that draws its order -/
theorem step_append_lks {w : World} {ops : Array Oper} {o : Oper} {a : Act} {K : Act → World → Prop} {Q : Exit → Act → World → Prop} {E : Prop} (hgd : o.guard = none) (s x : Operand)
    (ho : o.op = .call { callee := .builtin .append, args := #[s, x], argTypes := #[22, 22] })
    (base : Nat) (v : Value) (n : Nat) (pre : List Ch.Lk) (hs : a.eval s = v) (hown : w.ownsRow base 58 3 v n (lkCells pre))
    (b : Option Addr) (m cap : Nat) (L : List Ch.Lk) (hm : L.length = m) (hx : a.eval x = .slice b m cap) (hL : LksAt w b L) (hb : b = none → cap = 0)
    (h9 : n + m ≤ 100000) (hbase : base ≤ w.heap.size)
    (h : ∀ p cp w', w'.ownsRow base 58 3 (.slice p (n + m) cp) (n + m) (lkCells (pre ++ L)) → w.grownBy w' v.ownBlock → K (a.put o.dst (.slice p (n + m) cp)) w') :
    if Region.wanted o (yielded ops a.tmps) = true then Oper.wp Try.prog o a w K Q else E := by
  have hw : Region.wanted o (yielded ops a.tmps) = true := by unfold Region.wanted; rw [hgd]
  rw [if_pos hw]
  obtain ⟨i0, hi, hz0, hz1, hz2⟩ := info_parts infoLk
  subst hm
  cases b with
  | none =>
    have h0 := hb rfl
    subst h0
    have hl : L = [] := by
      cases L with
      | nil => rfl
      | cons l r =>
        obtain ⟨x, hx, _⟩ := hL 0 (by simp)
        cases hx
    subst hl
    have hrun := run_append_owned_none (P := Try.prog) (w := w) base 22 o.type 58 i0 3 Try.underlying22 hi v n _ hown
    obtain ⟨p, cp, hv, _⟩ := owns_slice hown
    have h2 := h p cp w (by rw [List.append_nil]; rw [hv] at hown; exact hown) (by exact grownBy_refl _ _)
    have hx' : a.eval x = .slice none 0 0 := hx
    unfold Oper.wp
    simp [execOp, ho, resolve, invoke, builtin, hs, hx', hrun, Result.andThen]
    rw [hv]
    exact h2
  | some ad =>
    refine wp_append_own w s x 22 ho base 58 i0 _ 3 24 Try.underlying22 hi hz0 hz1 hz2 rfl (by decide) v n _ hs hown ad L.length cap (lkCells L) hx (lkCells_len L) (fun j u hu => lks_cells hL j u hu) (lk_one L) ?_ ?_ hbase ?_
    · unfold maxLen; omega
    · omega
    · intro v' w' h1 h2 _
      rw [← lkCells_append] at h1
      obtain ⟨p, cp, rfl, _⟩ := owns_slice h1
      exact h p cp w' h1 h2

/-- are two lists of links the same from the k-th on -/
theorem lk_ext {L L2 : List Ch.Lk} (h : L.length = L2.length) (hk : ∀ k, k < L.length → L.getD k Ch.noLk = L2.getD k Ch.noLk) : L = L2 := by
  apply List.ext_getElem h
  intro k h1 h2
  have := hk k h1
  rw [List.getD, List.getD, List.getElem?_eq_getElem h1, List.getElem?_eq_getElem h2] at this
  exact this
theorem same_iff {a b : Ch.Lk} : Ch.sameLk a b = true ↔ a = b := by
  unfold Ch.sameLk
  simp only [Bool.and_eq_true, beq_iff_eq]
  constructor
  · rintro ⟨⟨h1, h2⟩, h3⟩
    cases a; cases b; simp at h1 h2 h3; subst h1; subst h2; subst h3; rfl
  · rintro rfl; exact ⟨⟨rfl, rfl⟩, rfl⟩
end Go.Proofs.Ytkcchangkhklcaa
