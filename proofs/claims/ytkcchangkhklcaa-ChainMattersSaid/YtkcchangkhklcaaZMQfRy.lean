/- Several texts one behind the other. -/
import Derived.Test.YtkcchangkhklcaaZMQdQe
import Derived.Test.YtkcchangkhklcaaZMFiYb
import Derived.BigQuiet
import Derived.Test.YtkcchangkhklcaaZMQtYp
set_option linter.unusedSimpArgs false
set_option linter.unusedVariables false
/- Contracts of the specification: Clash. -/
namespace Go.Proofs.Ytkcchangkhklcaa
open Go.RowKit

/-- append of a list of one's own to another one -/
theorem wpList_append_src {w : World} {ops : Array Oper} {rest : List Oper} {o : Oper} {a : Act} {Q : Exit → Act → World → Prop} (hgd : o.guard = none) (s x : Operand)
    (ho : o.op = .call { callee := .builtin .append, args := #[s, x], argTypes := #[32, 32] })
    (base B2 : Nat) (v : Value) (n : Nat) (xs : List Value) (hs : a.eval s = v) (hown : w.ownsRow base 3 1 v n xs) (sv : Value) (r : List Nat) (hx : a.eval x = sv)
    (hsrc : w.ownsRow B2 3 1 sv r.length (r.map fun i : Nat => Value.int .i64 (i : Int))) (h9 : n + r.length ≤ 100000) (hbase : base ≤ w.heap.size)
    (h : ∀ v' w', w'.ownsRow base 3 1 v' (n + r.length) (xs ++ r.map fun i : Nat => Value.int .i64 (i : Int)) → w.grownBy w' v.ownBlock → wpList Try.prog ops Q rest (a.put o.dst v') w') : wpList Try.prog ops Q (o :: rest) a w := by
  obtain ⟨i0, hi, hz0, hz1, hz2⟩ := info_parts infoInt
  rcases hsrc.2 with ⟨hv, h0⟩ | ⟨g, cap, cur, hv, _, hgb, hnc, _, hcs, ht⟩
  · have hr : r = [] := List.length_eq_zero_iff.1 h0
    subst hr
    rw [hv] at hx
    refine wpList_append_own_none hgd s x 32 ho base 3 i0 1 Try.underlying32 hi v n _ hs hown hx ?_
    refine h v w ?_ (grownBy_refl _ _)
    rw [List.map_nil, List.append_nil]
    exact hown
  · rw [hv] at hx
    refine wpList_append_own _ hgd s x 32 ho base 3 i0 _ 1 8 Try.underlying32 hi hz0 hz1 hz2 rfl (by decide) v n _ hs hown ⟨g, 0, none⟩ r.length cap (r.map fun i : Nat => Value.int .i64 (i : Int)) hx (by simp) (fun j u hu => ?_) (fun u hu => ?_) ?_ ?_ hbase (fun v' w' h1 h2 _ => h v' w' h1 h2)
    · have hj : j < r.length := by
        have := (List.getElem?_eq_some_iff.1 hu).1
        simpa using this
      have e : (⟨g, 0, none⟩ : Addr).add j = ⟨g, j, none⟩ := by unfold Addr.add; split <;> simp_all
      rw [← ht, List.getElem?_take_of_lt (by omega), Array.getElem?_toList] at hu
      rw [e]
      simp [World.cell?, hgb, hu]
    · obtain ⟨i, _, rfl⟩ := List.mem_map.1 hu
      rfl
    · unfold maxLen; omega
    · omega

set_option linter.unusedSimpArgs false in
set_option maxRecDepth 100000 in
set_option maxHeartbeats 16000000 in
theorem rclash_any (n : Int) (a : Option Addr) (m cap : Nat) (L : List Ch.Lk) (hm : Hid (L.length = m)) (hck : (Ch.check n L).1 = 0) (hno : ¬ ∃ σ, Ch.Sol L [] σ) (c : List Nat) (hc : Ch.clash n.toNat L [] = some (some c)) (w : World) (hL : Hid (LksAt w a L)) :
    Calls Try.prog 17 #[sysV n a m cap] w (RwlPost w c) := by
  obtain ⟨n1, n2, n3, hok⟩ := Ch.check_ok hck
  have HTi := Lib.hid fun (W : World) (h : SB w n a m cap L W) => rtight_any n a m cap L hm hck W (Lib.hid h.l)
  have hTb := Lib.hid fun (W : World) (h : SB w n a m cap L W) => tables_any n a m cap L hm hck W (Lib.hid h.l)
  obtain ⟨N, rfl⟩ : ∃ N : Nat, n = (N : Int) := ⟨n.toNat, by omega⟩
  simp only [Int.toNat_natCast] at *
  obtain ⟨k, i, r, rfl, hkN, hiL, hP, hP1, hP2, hfst⟩ := Ch.clash_first (by omega) hok hno hc
  have hrl : r.length = k := Ch.fst_len hfst
  have hm3 : m ≤ 300 := by have := hm.out; omega
  obtain ⟨i0, hi, hz0, hz1, hz2⟩ := info_parts infoInt
  have hok9 := Lib.hid hok
  have hP9 := Lib.hid hP
  replace hP1 := Lib.hid hP1
  replace hP2 := Lib.hid hP2
  replace hfst := Lib.hid hfst
  replace hno := Lib.hid hno
  unfold sysV at *
  clear hck hc hok hP
  go_enter Try.func17, Try.ntmps17
  have hJ := Lib.hid (SB.mk (w := w) (n := (N : Int)) (a := a) (m := m) (cap := cap) (W := w.alloc (Obj.cells #[.int .i64 (N : Int), .slice a m cap] 24)) (by simp [go_sem]) (by simp [go_sem]) (hL.out.below (below_alloc (Below.refl _ _) _)) (below_alloc (Below.refl _ _) _))
  clear hL
  go_wp2_with fail
  refine (HTi.out _ hJ.out).mono ?_
  rintro e w1 ⟨hb, h⟩
  obtain ⟨_, rfl⟩ := h.resolve_right (fun h => hno.out h.1)
  have hJ1 := Lib.hid (hJ.out.below hb)
  clear hb hJ h HTi
  have k0 := hJ1.out.c0
  have k1 := hJ1.out.c1
  go_wp2_with fail
  refine (hTb.out _ hJ1.out).mono ?_
  rintro e w2 ⟨tb, tc, O, C, R, rfl, ht, hb⟩
  have hJ2 := Lib.hid (hJ1.out.below hb)
  replace ht := Lib.hid ht
  clear hJ1 hb hTb k0 k1
  go_wp2
  go_loopw [6] (fun ii wr => ∃ x : Nat, x ≤ k ∧ ii = .int .i64 ((x : Int) + 1) ∧ Hid (Below w2.heap.size w2 wr)) (fun ii _ => N + 1 - (RowKit.intOf ii).toNat)
  case atStart => exact ⟨0, Nat.zero_le _, rfl, Lib.hid (Below.refl _ _)⟩
  case round =>
    obtain ⟨x, hx, rfl, hB⟩ := hrel
    have k0 := kept1 hJ2.out.c0 hB.out
    have hi5 : (x : Int) + 1 ≤ (N : Int) := by omega
    go_wp2
    clear k0
    obtain ⟨V, rfl⟩ : ∃ V, V = wr := ⟨_, rfl⟩
    go_loopw [7] (fun jj wr => ∃ q : Nat, q ≤ m ∧ jj = .int .i64 q ∧ Hid (Below w2.heap.size w2 wr) ∧ Hid (x = k → q ≤ i)) (fun jj _ => m - (RowKit.intOf jj).toNat)
    case atStart => exact ⟨0, Nat.zero_le _, rfl, hB, Lib.hid fun _ => Nat.zero_le _⟩
    case round =>
      clear hB
      obtain ⟨q, hq, rfl, hB, hqi⟩ := hrel
      have k1 := kept1 hJ2.out.c1 hB.out
      by_cases hlt : q < m
      · have hi6 : (q : Int) < (m : Int) := by omega
        have hi7 : (0 : Int) ≤ (q : Int) := by omega
        have hqL : q < L.length := by have := hm.out; omega
        obtain ⟨y, rfl, g0, g1, g2⟩ := (hJ2.out.l.below hB.out) q hqL
        have hok1 := Ch.okLk_spec (hok9.out q hqL)
        obtain ⟨f, t, mo, hlk⟩ : ∃ f t mo, L.getD q Ch.noLk = ⟨f, t, mo⟩ := ⟨_, _, _, rfl⟩
        obtain ⟨P, hPd⟩ : ∃ P : Prop, Ch.Pk L x q = P := ⟨_, rfl⟩
        have hPq := hPd
        unfold Ch.Pk at hPq
        rw [hlk] at g0 g1 g2 hok1 hPq
        simp only at hok1 g0 g1 g2 hPq
        obtain ⟨o1, o2, o3, o4, _, o6, o7⟩ := hok1
        obtain ⟨p, rfl⟩ : ∃ u : Nat, t = (u : Int) := ⟨t.toNat, by omega⟩
        obtain ⟨z, rfl⟩ : ∃ u : Nat, f = (u : Int) := ⟨f.toNat, by omega⟩
        simp only [Int.toNat_natCast] at hPq
        have hp : p < N := by omega
        have hz : z < N := by omega
        have hp0 : (0 : Int) ≤ (p : Int) := by omega
        have hz9 : (0 : Int) ≤ (z : Int) := by omega
        have hsm := Ch.tabF_small hok9.out (k := x) (u := p) (v := z) (by omega)
        go_upto_region 12 with fail
        have hbX : Below wr.heap.size wr (wr.alloc (Obj.cells #[.int .i64 (z : Int), .int .i64 (p : Int), .int .i64 mo] 58)) := (Below.refl _ _).alloc (Nat.le_refl _) _
        have HX := Lib.hid (hB.out.trans (hbX.mono hB.out.size))
        have l0 : (wr.alloc (Obj.cells #[.int .i64 (z : Int), .int .i64 (p : Int), .int .i64 mo] 58)).cell? ⟨wr.heap.size, 0, none⟩ = some (.int .i64 (z : Int)) := by simp [go_sem]
        have l1 : (wr.alloc (Obj.cells #[.int .i64 (z : Int), .int .i64 (p : Int), .int .i64 mo] 58)).cell? ⟨wr.heap.size, 1, none⟩ = some (.int .i64 (p : Int)) := by simp [go_sem]
        have l2 : (wr.alloc (Obj.cells #[.int .i64 (z : Int), .int .i64 (p : Int), .int .i64 mo] 58)).cell? ⟨wr.heap.size, 2, none⟩ = some (.int .i64 mo) := by simp [go_sem]
        clear hB k1 g0 g1 g2 hbX
        generalize wr.alloc (Obj.cells #[.int .i64 (z : Int), .int .i64 (p : Int), .int .i64 mo] 58) = X at *
        generalize wr.heap.size = lb at *
        have HT := ht.out.below HX.out
        have d0 := HT.o x (by omega)
        have d1 := (HT.t x (by omega)).o p hp
        have d2 := (HT.t x (by omega)).get hp hz
        obtain ⟨ox, hox⟩ : ∃ z, O x = z := ⟨_, rfl⟩
        obtain ⟨cx, hcx⟩ : ∃ z, C x = z := ⟨_, rfl⟩
        obtain ⟨rx, hrx⟩ : ∃ z, R x p = z := ⟨_, rfl⟩
        obtain ⟨b, hb9⟩ : ∃ b, Ch.tabF L x p z = b := ⟨_, rfl⟩
        rw [hox, hcx] at d0
        rw [hox, hrx] at d1
        rw [hrx, hb9] at d2
        rw [hb9] at hPq hsm
        obtain ⟨s1, s2⟩ := hsm
        have hw1 : IntKind.i64.wrap (x : Int) = (x : Int) := wrap_ok (by omega) (by omega)
        have hx6 : (0 : Int) ≤ (x : Int) := by omega
        have hx7 : (x : Int) < (N : Int) + 1 := by omega
        have hx8 : x < N + 1 := by omega
        have hp1 : (p : Int) < (N : Int) := by omega
        have hz1' : (z : Int) < (N : Int) := by omega
        have hwr : IntKind.i64.wrap (mo + b) = mo + b := wrap_ok (by omega) (by omega)
        have hwm : IntKind.i64.wrap (-1 - mo) = -1 - mo := wrap_ok (by omega) (by omega)
        have HX2 := Lib.hid fun nq => HX.out.trans ((below_drewN (Below.refl X.heap.size X) nq).mono HX.out.size)
        have HX3 := Lib.hid fun nq => below_drewN (Below.refl X.heap.size X) nq
        replace hPd := Lib.hid hPd
        clear HT hox hcx hrx hb9 HX
        go_quiet (fail)
        have HW := Lib.hid (HX2.out nq)
        have hBX := HX3.out nq
        have q0 := kept1 l0 hBX
        have q1 := kept1 l1 hBX
        have q2 := kept1 l2 hBX
        clear HX2 HX3 hBX l0 l1 l2 d0 d1 d2
        generalize X.drewN nq = W at *
        by_cases hPP : P
        · have hPP2 := hPP
          rw [← hPq] at hPP2
          obtain ⟨hb1, hb2⟩ := hPP2
          have hPP3 := hPP
          rw [← hPd.out] at hPP3
          have hxk : x = k := Classical.byContradiction fun h => hP2.out x q (by omega) hqL hPP3
          subst hxk
          have hqi2 := hqi.out rfl
          have hqe : q = i := Classical.byContradiction fun h => hP1.out q (by omega) hPP3
          subst hqe
          have e1 : (b != 1152921504606846976) = true := by rw [bne_iff_ne]; exact hb1
          have hf9 : Hid (Ch.fst L (Ch.sumsTo N L [] z) x (p : Int) (-1 - mo) = some r) := Lib.hid (by
            have h := hfst.out
            rw [hlk] at h
            exact h)
          have hJW := Lib.hid (hJ2.out.below HW.out)
          have hTW := Lib.hid (ht.out.below HW.out)
          have k0 := hJW.out.c0
          have k1 := hJW.out.c1
          clear hPP hPq hPd hP1 hP2 hP9 hlk hfst s2 hqi hqi2 hno hPP3
          have hbA : Below W.heap.size W (W.alloc (Obj.cells #[.int .i64 (q : Int)] 3)) := (Below.refl _ _).alloc (Nat.le_refl _) _
          have HWk := Lib.hid (rwalk_any N (by omega) (some y) m cap hm3 L hm hok9 (N + 1) tb tc O C R (by omega) x z (by omega) hz (p : Int) (-1 - mo) (by omega) (by omega) r hf9 (W.alloc (Obj.cells #[.int .i64 (q : Int)] 3)) (Lib.hid (hJW.out.l.below hbA)) (Lib.hid (hTW.out.below hbA)))
          have hrow : (W.alloc (Obj.cells #[.int .i64 (q : Int)] 3)).ownsRow w.heap.size 3 1 (.slice (some ⟨W.heap.size, 0, none⟩) 1 1) 1 [.int .i64 (q : Int)] := ⟨rfl, .inr ⟨W.heap.size, 1, #[.int .i64 (q : Int)], rfl, hJW.out.b.size, heap_alloc_new _ _, by omega, by unfold maxLen; omega, rfl, rfl⟩⟩
          have hBA := hJW.out.b.alloc hJW.out.b.size (Obj.cells #[.int .i64 (q : Int)] 3)
          replace hrow := Lib.hid hrow
          replace hBA := Lib.hid hBA
          have kk0 := cell_alloc k0 (Obj.cells #[.int .i64 (q : Int)] 3)
          have kk1 := cell_alloc k1 (Obj.cells #[.int .i64 (q : Int)] 3)
          have qq0 := cell_alloc q0 (Obj.cells #[.int .i64 (q : Int)] 3)
          have qq1 := cell_alloc q1 (Obj.cells #[.int .i64 (q : Int)] 3)
          have qq2 := cell_alloc q2 (Obj.cells #[.int .i64 (q : Int)] 3)
          clear hbA hTW hf9
          unfold sysV at *
          go_wp2_with fail
          refine HWk.out.mono ?_
          rintro e w5 ⟨v5, rfl, hown, hb⟩
          have hown1 := owns_but (T := fun _ => False) hrow.out ((But.of_below hb).mono (fun _ _ h => h)) (fun _ _ h => h)
          have hB5 := hBA.out.trans (hb.mono hBA.out.size)
          have hsz5 := hB5.size
          have hrl9 : 1 + r.length ≤ 100000 := by omega
          clear hrow hBA hb HWk
          go_wp2_with (first
            | (at_builtin; refine wpList_append_src rfl (.tmp 61) (.tmp 73) rfl w.heap.size _ _ 1 [.int .i64 (q : Int)] rfl hown1 v5 r rfl hown hrl9 hsz5 ?_)
            | fail)
          intro v' w6 hown' hgrow
          have hB6 := below_grown hB5 hown1 hgrow
          have hown9 : w6.ownsRow w.heap.size 3 1 v' (q :: r).length ((q :: r).map fun i : Nat => Value.int .i64 (i : Int)) := by
            rw [List.length_cons, Nat.add_comm, List.map_cons, hrl]
            exact hown'
          clear hown' hgrow hown1 hown hB5 hJW
          go_wp2
          go_ret
          exact ⟨_, rfl, hown9, hB6⟩
        · have hb2 : ¬ (b ≠ 1152921504606846976 ∧ mo + b < 0) := by rw [hPq]; exact hPP
          have hqi3 : Hid (x = k → q + 1 ≤ i) := Lib.hid fun h => by
            have h1 := hqi.out h
            have h2 : q ≠ i := fun e => hPP (by rw [← hPd.out, h, e]; exact hP9.out)
            omega
          clear hPP hPq hPd hqi hlk q0 q1
          by_cases hbf : b = 1152921504606846976
          · subst hbf
            clear hb2
            go_wp2
            go_roundw
            case rel => exact ⟨q + 1, by omega, by go_num, HW, hqi3⟩
            case measure => show m - ((q : Int) + 1).toNat < m - (q : Int).toNat; omega
          · have e1 : (b != 1152921504606846976) = true := by rw [bne_iff_ne]; exact hbf
            have e2 : ¬ mo + b < 0 := fun h => hb2 ⟨hbf, h⟩
            clear hb2
            go_wp2
            go_roundw
            case rel => exact ⟨q + 1, by omega, by go_num, HW, hqi3⟩
            case measure => show m - ((q : Int) + 1).toNat < m - (q : Int).toNat; omega
      · obtain rfl : q = m := by omega
        have hi6 : ¬ (q : Int) < (q : Int) := by omega
        have hxk : x < k := by
          have : x ≠ k := fun h => by have := hqi.out h; have := hm.out; omega
          omega
        clear hqi
        go_wp2
        go_roundw
        case rel => exact ⟨x + 1, by omega, by go_num, hB⟩
        case measure => show N + 1 - ((x : Int) + 1 + 1).toNat < N + 1 - ((x : Int) + 1).toNat; omega
end Go.Proofs.Ytkcchangkhklcaa

/- Contracts of the specification: Has. -/
namespace Go.Proofs.Ytkcchangkhklcaa
open Go.RowKit

set_option maxRecDepth 100000 in
set_option maxHeartbeats 2000000 in
theorem has_any (b : Option Addr) (q cap : Nat) (l : List Int) (z : Int) (hq : Hid (l.length = q)) (hq9 : q ≤ 1000) (R : Bool) (hR : Hid (decide (z ∈ l) = R)) (w : World) (hl : Hid (IntsAt w b l)) :
    Calls Try.prog 40 #[.slice b q cap, .int .i64 z] w fun e w' => e = .returned (.bool R) ∧ w' = w := by
  go_enter Try.func40, Try.ntmps40
  go_wp2
  go_loopw [5] (fun i wr => ∃ k : Nat, k ≤ q ∧ i = .int .i64 k ∧ w = wr ∧ Hid (z ∉ l.take k)) (fun i _ => q - (RowKit.intOf i).toNat)
  case atStart => exact ⟨0, Nat.zero_le _, rfl, rfl, Lib.hid (by simp)⟩
  case round =>
    obtain ⟨k, hk, rfl, rfl, hno⟩ := hrel
    by_cases hlt : k < q
    · have hkl : k < l.length := by have := hq.out; omega
      obtain ⟨x, rfl, hx⟩ := hl.out k hkl
      have hi5 : (k : Int) < (q : Int) := by omega
      have hi6 : (0 : Int) ≤ (k : Int) := by omega
      have hnx : l.take (k + 1) = l.take k ++ [l.getD k 0] := by
        rw [List.take_succ_eq_append_getElem hkl]
        congr 2
        rw [List.getD, List.getElem?_eq_getElem hkl]; rfl
      have hmem : l.getD k 0 ∈ l := by rw [List.getD, List.getElem?_eq_getElem hkl]; exact List.getElem_mem hkl
      obtain ⟨v, hv⟩ : ∃ v, l.getD k 0 = v := ⟨_, rfl⟩
      rw [hv] at hx hnx hmem
      by_cases e : v = z
      · obtain rfl : true = R := by rw [← hR.out]; rw [decide_eq_true (e ▸ hmem)]
        have g : (v == z) = true := by rw [beq_iff_eq]; exact e
        subst e
        clear hno hnx hmem hv hR
        go_wp2
        go_ret
        exact ⟨rfl, rfl⟩
      · have g : (v == z) = false := by rw [beq_eq_false_iff_ne]; exact e
        have hno2 := Lib.hid (show z ∉ l.take (k + 1) by rw [hnx]; simp only [List.mem_append, List.mem_singleton, not_or]; exact ⟨hno.out, fun h => e h.symm⟩)
        clear hno hnx hmem hv
        go_wp2
        go_roundw
        case rel => exact ⟨k + 1, by omega, by go_num, by first | rfl | trivial, hno2⟩
        case measure => show q - ((k : Int) + 1).toNat < q - (k : Int).toNat; omega
    · obtain rfl : k = q := by omega
      have hi5 : ¬ (k : Int) < (k : Int) := by omega
      obtain rfl : false = R := by
        have h := hno.out
        rw [List.take_of_length_le (by have := hq.out; omega)] at h
        rw [← hR.out, decide_eq_false h]
      clear hno hR
      go_wp2
      go_ret
      exact ⟨rfl, rfl⟩

end Go.Proofs.Ytkcchangkhklcaa

/- What With and Without of the specification leave. -/
namespace Go.Proofs.Ytkcchangkhklcaa
open Go.RowKit

/-- what With and Without of the specification leave -/
def RwPost (w : World) (n : Int) (L : List Ch.Lk) (e : Ending) (w' : World) : Prop :=
  ∃ v, e = .returned (.agg #[.int .i64 n, v]) ∧ w'.ownsRow w.heap.size 58 3 v L.length (lkCells L) ∧ Below w.heap.size w w'

end Go.Proofs.Ytkcchangkhklcaa
