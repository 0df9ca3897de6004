/- Several texts one behind the other. -/
import Derived.Test.YtkcchangkhklcaaZQc
import Derived.Test.YtkcchangkhklcaaZ06
import Derived.BigQuiet
import Derived.Test.YtkcchangkhklcaaZMFqFv
import Derived.Test.YtkcchangkhklcaaZMYsQa
import Derived.Deep.RegionHeld3
set_option linter.unusedSimpArgs false
set_option linter.unusedVariables false
/- Contracts of the specification: walk. -/
namespace Go.Proofs.Ytkcchangkhklcaa
open Go.RowKit

/-- the world in walk: the system in its box, what is gathered -/
structure RWk (w : World) (a : Option Addr) (m cap : Nat) (v : Value) (pre : List Nat) (W : World) : Prop where
  c1 : W.cell? ⟨w.heap.size, 1, none⟩ = some (.slice a m cap)
  own : W.ownsRow (w.heap.size + 1) 3 1 v pre.length (pre.map fun i : Nat => Value.int .i64 (i : Int))
  b : Below w.heap.size w W
theorem RWk.below {w W W' : World} {a : Option Addr} {m cap : Nat} {v : Value} {pre : List Nat} (h : RWk w a m cap v pre W) (hb : Below W.heap.size W W') : RWk w a m cap v pre W' :=
  ⟨kept1 h.c1 hb, owns_but (T := fun _ => False) h.own ((But.of_below hb).mono (fun _ _ h => h)) (fun _ _ h => h), h.b.trans (hb.mono h.b.size)⟩
theorem RWk.push {w W W' : World} {a : Option Addr} {m cap : Nat} {v v' : Value} {pre : List Nat} {i : Nat} (o : Obj) (h : RWk w a m cap v pre W) (hg : (W.alloc o).grownBy W' v.ownBlock) (ho : W'.ownsRow (w.heap.size + 1) 3 1 v' (pre.length + 1) (pre.map (fun i : Nat => Value.int .i64 (i : Int)) ++ [.int .i64 (i : Int)])) : RWk w a m cap v' (pre ++ [i]) W' := by
  have hX := h.own.alloc o
  have hfar : ∀ g, v.ownBlock = some g → w.heap.size + 1 ≤ g := fun g hg => owns_far hX hg
  exact ⟨cell_far hg hfar (by show w.heap.size < _; omega) (cell_alloc h.c1 o), by rw [List.length_append, List.map_append]; exact ho, below_grown (h.b.alloc h.b.size o) (owns_base hX (Nat.le_succ _)) hg⟩
theorem own_link {W : World} {base n size g lb : Nat} {v : Value} {xs : List Value} (h : W.ownsRow base 3 size v n xs) (hr : ∃ c, W.heap[lb]? = some (.cells c 58 (0, 0))) (hg : v.ownBlock = some g) : g ≠ lb := by
  rintro rfl
  obtain ⟨_, h2⟩ := h
  rcases h2 with ⟨hv, _⟩ | ⟨g', cap, cur, hv, _, hc, _⟩
  · rw [hv] at hg; cases hg
  · rw [hv] at hg; cases hg
    obtain ⟨c, h3⟩ := hr
    rw [hc] at h3
    simp at h3
/-- what walk leaves -/
def RwlPost (w : World) (l : List Nat) (e : Ending) (w' : World) : Prop :=
  ∃ v, e = .returned v ∧ w'.ownsRow w.heap.size 3 1 v l.length (l.map fun i : Nat => Value.int .i64 (i : Int)) ∧ Below w.heap.size w w'

set_option linter.unusedSimpArgs false in
set_option maxRecDepth 100000 in
set_option maxHeartbeats 16000000 in
theorem rwalk_any (N : Nat) (n2 : N ≤ 60) (a : Option Addr) (m cap : Nat) (m3 : m ≤ 300) (L : List Ch.Lk) (hm : Hid (L.length = m)) (hok : Hid (∀ j, j < L.length → Ch.okLk N (L.getD j Ch.noLk) = true)) (K tb tc : Nat) (O C : Nat → Nat) (R : Nat → Nat → Nat) (hK : K ≤ 100)
    (k tv : Nat) (hk : k < K) (hto : tv < N) (u most : Int) (hu : 0 ≤ u ∧ u < N) (hmost : -612489549322387456 ≤ most ∧ most ≤ 612489549322387456) (l : List Nat) (hl : Hid (Ch.fst L (Ch.sumsTo N L [] tv) k u most = some l)) (w : World) (hL : Hid (LksAt w a L)) (hT : Hid (TT N K tb O C R (Ch.tabF L) w)) :
    Calls Try.prog 51 #[sysV N a m cap, .slice (some ⟨tb, 0, none⟩) K tc, .int .i64 k, .int .i64 u, .int .i64 tv, .int .i64 most] w (RwlPost w l) := by
  obtain ⟨i0, hi, hz0, hz1, hz2⟩ := info_parts infoInt
  have hRW : Hid (RWk w a m cap (.slice none 0 0) [] (w.alloc (Obj.cells #[.int .i64 (N : Int), .slice a m cap] 24))) := Lib.hid ⟨by simp [go_sem], World.ownsRow_nil _ _ _ _, below_alloc (Below.refl _ _) _⟩
  unfold sysV at *
  go_enter Try.func51, Try.ntmps51
  go_wp2
  generalize hX0 : w.alloc (Obj.cells #[.int .i64 (N : Int), .slice a m cap] 24) = X0 at *
  clear hX0
  have hto1 : (tv : Int) < (N : Int) := by omega
  have hto0 : (0 : Int) ≤ (tv : Int) := by omega
  go_loopw [2, 14, 5, 13] (fun kk av mv vv wr => ∃ (j : Nat) (u' most' : Int) (pre rest : List Nat) (v : Value), j ≤ k ∧ kk = .int .i64 (j : Int) ∧ av = .int .i64 u' ∧ mv = .int .i64 most' ∧ v = vv ∧ 0 ≤ u' ∧ u' < N ∧ -612489549322387456 - 4503599627370496 * ((k : Int) - j) ≤ most' ∧ most' ≤ 612489549322387456 + 4503599627370496 * ((k : Int) - j) ∧ Hid (Ch.fst L (Ch.sumsTo N L [] tv) j u' most' = some rest) ∧ Hid (l = pre ++ rest) ∧ Hid (pre.length + j = k) ∧ Hid (RWk w a m cap v pre wr)) (fun kk _ _ _ _ => (RowKit.intOf kk).toNat)
  case atStart => exact ⟨k, u, most, [], l, _, Nat.le_refl _, rfl, rfl, rfl, rfl, hu.1, hu.2, by omega, by omega, hl, Lib.hid rfl, Lib.hid (by simp), hRW⟩
  case round =>
    clear hRW
    obtain ⟨j, u', most', pre, rest, v, hj, rfl, rfl, rfl, rfl, u1, u2, m1, m2, hfst, hlr, hpl, HR⟩ := hrel
    cases j with
    | zero =>
      have hl0 : rest = [] := by have h := hfst.out; exact (Option.some.inj h).symm
      subst hl0
      have hlr2 : l = pre := by have h := hlr.out; simpa using h
      subst hlr2
      have hi5 : ¬ (0 : Int) < ((0 : Nat) : Int) := by omega
      have ho := owns_base (base' := w.heap.size) HR.out.own (Nat.le_succ _)
      have hb := HR.out.b
      clear HR
      go_wp2
      go_ret
      exact ⟨_, rfl, ho, hb⟩
    | succ j =>
      have hi5 : (0 : Int) < (j : Int) + 1 := by omega
      obtain ⟨i, hidx, hnext⟩ : ∃ i, Ch.idx (Ch.canLk (Ch.sumsTo N L [] tv j) u' most') L 0 = some i ∧ (Ch.fst L (Ch.sumsTo N L [] tv) j (L.getD i Ch.noLk).t (most' - (L.getD i Ch.noLk).m)).map (i :: ·) = some rest := by
        have h := hfst.out
        rw [Ch.fst] at h
        cases e : Ch.idx (Ch.canLk (Ch.sumsTo N L [] tv j) u' most') L 0 with
        | none => rw [e] at h; cases h
        | some i => rw [e] at h; exact ⟨i, rfl, h⟩
      obtain ⟨rest', hr1, hr2⟩ := Option.map_eq_some_iff.1 hnext
      replace hidx := Lib.hid hidx
      replace hr1 := Lib.hid hr1
      replace hr2 := Lib.hid hr2
      clear hnext hfst
      obtain ⟨V, rfl⟩ : ∃ V, V = wr := ⟨_, rfl⟩
      go_wp2
      go_loopw [15, 14, 5, 13] (fun ii av mv vv wr => ∃ q : Nat, q ≤ m ∧ ii = .int .i64 q ∧ av = .int .i64 u' ∧ mv = .int .i64 most' ∧ v = vv ∧ Hid (RWk w a m cap v pre wr) ∧ Hid (Ch.idx (Ch.canLk (Ch.sumsTo N L [] tv j) u' most') (L.drop q) q = some i)) (fun ii _ _ _ _ => m - (RowKit.intOf ii).toNat)
      case atStart => exact ⟨0, Nat.zero_le _, rfl, rfl, rfl, rfl, HR, hidx⟩
      case round =>
        clear HR
        obtain ⟨q, hq, rfl, rfl, rfl, rfl, HR, hid⟩ := hrel
        have k1 := HR.out.c1
        by_cases hlt : q < m
        · have hi6 : (q : Int) < (m : Int) := by omega
          have hi7 : (0 : Int) ≤ (q : Int) := by omega
          obtain ⟨y, rfl, g0, g1, g2⟩ := (hL.out.below HR.out.b) q (by have := hm.out; omega)
          have hok1 := Ch.okLk_spec (hok.out q (by have := hm.out; omega))
          obtain ⟨f, t, mo, hlk⟩ : ∃ f t mo, L.getD q Ch.noLk = ⟨f, t, mo⟩ := ⟨_, _, _, rfl⟩
          have hst := Ch.idx_step (p := Ch.canLk (Ch.sumsTo N L [] tv j) u' most') (L := L) (k := q) (by have := hm.out; omega)
          rw [hlk] at g0 g1 g2 hok1 hst
          simp only at hok1 g0 g1 g2
          obtain ⟨o1, o2, o3, o4, _, o6, o7⟩ := hok1
          obtain ⟨p, rfl⟩ : ∃ u : Nat, t = (u : Int) := ⟨t.toNat, by omega⟩
          have hp : p < N := by omega
          have hp0 : (0 : Int) ≤ (p : Int) := by omega
          have hsm := Ch.tabF_small hok.out (k := j) (u := p) (v := tv) (by omega)
          have hsu := Ch.tabF_sums hok.out (k := j) (u := p) (v := tv) (by omega) hp hto
          obtain ⟨bb, hbb⟩ : ∃ bb, Ch.canLk (Ch.sumsTo N L [] tv j) u' most' ⟨f, (p : Int), mo⟩ = bb := ⟨_, rfl⟩
          have hcan : (f == u' && decide ((Ch.sumsTo N L [] tv j).getD p 0 ≤ most' - mo)) = bb := hbb
          rw [hbb] at hst
          rw [← hsu] at hcan
          clear hbb
          go_upto_region 9 with fail
          have hbX : Below wr.heap.size wr (wr.alloc (Obj.cells #[.int .i64 f, .int .i64 (p : Int), .int .i64 mo] 58)) := (Below.refl _ _).alloc (Nat.le_refl _) _
          have HX := Lib.hid (HR.out.below hbX)
          have l0 : (wr.alloc (Obj.cells #[.int .i64 f, .int .i64 (p : Int), .int .i64 mo] 58)).cell? ⟨wr.heap.size, 0, none⟩ = some (.int .i64 f) := by simp [go_sem]
          have l1 : (wr.alloc (Obj.cells #[.int .i64 f, .int .i64 (p : Int), .int .i64 mo] 58)).cell? ⟨wr.heap.size, 1, none⟩ = some (.int .i64 (p : Int)) := by simp [go_sem]
          have l2 : (wr.alloc (Obj.cells #[.int .i64 f, .int .i64 (p : Int), .int .i64 mo] 58)).cell? ⟨wr.heap.size, 2, none⟩ = some (.int .i64 mo) := by simp [go_sem]
          have hty : ∃ c, (wr.alloc (Obj.cells #[.int .i64 f, .int .i64 (p : Int), .int .i64 mo] 58)).heap[wr.heap.size]? = some (.cells c 58 (0, 0)) := ⟨_, heap_alloc_new _ _⟩
          replace hty := Lib.hid hty
          clear HR k1 g0 g1 g2 hbX hsu
          generalize wr.alloc (Obj.cells #[.int .i64 f, .int .i64 (p : Int), .int .i64 mo] 58) = X at *
          generalize wr.heap.size = lb at *
          have HT := hT.out.below HX.out.b
          have d0 := HT.o j (by omega)
          have d1 := (HT.t j (by omega)).o p hp
          have d2 := (HT.t j (by omega)).get hp hto
          obtain ⟨oj, hoj⟩ : ∃ z, O j = z := ⟨_, rfl⟩
          obtain ⟨cj, hcj⟩ : ∃ z, C j = z := ⟨_, rfl⟩
          obtain ⟨rj, hrj⟩ : ∃ z, R j p = z := ⟨_, rfl⟩
          obtain ⟨x, hx⟩ : ∃ x, Ch.tabF L j p tv = x := ⟨_, rfl⟩
          rw [hoj, hcj] at d0
          rw [hoj, hrj] at d1
          rw [hrj, hx] at d2
          rw [hx] at hcan hsm
          obtain ⟨s1, s2⟩ := hsm
          have hw1 : IntKind.i64.wrap (j : Int) = (j : Int) := wrap_ok (by omega) (by omega)
          have hj6 : (0 : Int) ≤ (j : Int) := by omega
          have hj7 : (j : Int) < (K : Int) := by omega
          have hj8 : j < K := by omega
          have hp1 : (p : Int) < (N : Int) := by omega
          have hwr : IntKind.i64.wrap (mo + x) = mo + x := wrap_ok (by omega) (by omega)
          have hwm : IntKind.i64.wrap (most' - mo) = most' - mo := wrap_ok (by omega) (by omega)
          have HX2 := Lib.hid fun nq => HX.out.below (below_drewN (Below.refl X.heap.size X) nq)
          have hB2 := Lib.hid fun nq => below_drewN (Below.refl X.heap.size X) nq
          replace hst := Lib.hid hst
          replace hcan := Lib.hid hcan
          clear HT hoj hcj hrj hx HX
          go_quiet (fail)
          have HX := Lib.hid (HX2.out nq)
          have hBX := hB2.out nq
          have q0 := kept1 l0 hBX
          have q1 := kept1 l1 hBX
          have q2 := kept1 l2 hBX
          have hty2 : Hid (∃ c, (X.drewN nq).heap[lb]? = some (.cells c 58 (0, 0))) := Lib.hid (by
            obtain ⟨c, hc⟩ := hty.out
            exact ⟨c, (hBX.block _ (heap_lt hc)).trans hc⟩)
          clear HX2 hB2 hBX l0 l1 l2 d0 d1 d2 hty
          generalize X.drewN nq = W at *
          by_cases hc : f = u' ∧ x ≤ most' - mo
          · obtain ⟨hfu, hxm⟩ := hc
            subst hfu
            obtain rfl : q = i := by
              have h := hst.out
              have hb9 : bb = true := by rw [← hcan.out, decide_eq_true hxm]; simp
              rw [hid.out, hb9] at h
              simpa using h.symm
            have e1 : (x != 1152921504606846976) = true := by rw [bne_iff_ne]; omega
            have e2 : mo + x ≤ most' := by omega
            have e3 : (f == f) = true := by simp
            rw [hlk] at hr1
            clear hst hid hcan
            have hown := HX.out.own
            have hsz := HX.out.b.size
            have hsz2 := block_lt_of_cell HX.out.c1
            have hlen := hpl.out
            go_wp2_with (first
              | (at_builtin; refine wpList_append_own _ rfl (.tmp 63) (.tmp 65) 32 rfl (w.heap.size + 1) 3 i0 (.int .i64 0) 1 8 Try.underlying32 hi hz0 hz1 hz2 rfl (by decide) _ _ _ rfl (hown.alloc _) ⟨W.heap.size, 0, none⟩ 1 1 [.int .i64 (q : Int)] rfl rfl ?c1 ?c2 ?c3 ?c4 ?c5 ?_)
              | fail)
            case c2 => rfl
            case c3 => unfold maxLen; omega
            case c4 => omega
            intro v' w4 hown' hgrow hnn
            have hne : ∀ g, v.ownBlock = some g → g ≠ lb := fun g hg => own_link hown hty2.out hg
            have l1 : w4.cell? ⟨lb, 1, none⟩ = some (.int .i64 (p : Int)) := (World.cell?_of_block (hgrow.block _ (block_lt_of_cell (cell_alloc q1 _)) (fun e => hne _ e.symm rfl))).trans (cell_alloc q1 _)
            have l2 : w4.cell? ⟨lb, 2, none⟩ = some (.int .i64 mo) := (World.cell?_of_block (hgrow.block _ (block_lt_of_cell (cell_alloc q2 _)) (fun e => hne _ e.symm rfl))).trans (cell_alloc q2 _)
            have HR2 := Lib.hid (HX.out.push _ hgrow hown')
            clear hown hown' hgrow hnn hne HX q0 q1 q2 hty2 hlk e1 e2 e3
            go_wp2
            go_roundw
            case rel => exact ⟨j, p, most' - mo, pre ++ [q], rest', _, by omega, rfl, rfl, rfl, rfl, by omega, by omega, by omega, by omega, hr1, Lib.hid (by rw [hlr.out, ← hr2.out, List.append_assoc]; rfl), Lib.hid (by have := hpl.out; simp; omega), HR2⟩
            case measure => show (j : Int).toNat < ((j : Int) + 1).toNat; omega
          · have hid2 : Hid (Ch.idx (Ch.canLk (Ch.sumsTo N L [] tv j) u' most') (L.drop (q + 1)) (q + 1) = some i) := Lib.hid (by
              have h := hst.out
              have hb9 : bb = false := by
                cases bb
                · rfl
                · have h9 := hcan.out
                  rw [Bool.and_eq_true, beq_iff_eq, decide_eq_true_eq] at h9
                  exact absurd h9 hc
              rw [hid.out, hb9] at h
              simpa using h.symm)
            clear hst hid hcan hty2 hlk
            by_cases hfu : f = u'
            · have hxm : ¬ x ≤ most' - mo := fun h => hc ⟨hfu, h⟩
              subst hfu
              by_cases hxf : x = 1152921504606846976
              · subst hxf
                have e3 : (f == f) = true := by simp
                clear hc hxm
                go_wp2
                go_roundw
                case rel => exact ⟨q + 1, by omega, by go_num, rfl, rfl, rfl, HX, hid2⟩
                case measure => show m - ((q : Int) + 1).toNat < m - (q : Int).toNat; omega
              · have e1 : (x != 1152921504606846976) = true := by rw [bne_iff_ne]; exact hxf
                have e2 : ¬ mo + x ≤ most' := by omega
                have e3 : (f == f) = true := by simp
                clear hc hxm
                go_wp2
                go_roundw
                case rel => exact ⟨q + 1, by omega, by go_num, rfl, rfl, rfl, HX, hid2⟩
                case measure => show m - ((q : Int) + 1).toNat < m - (q : Int).toNat; omega
            · have e3 : (f == u') = false := by rw [beq_eq_false_iff_ne]; exact hfu
              clear hc
              go_wp2
              go_roundw
              case rel => exact ⟨q + 1, by omega, by go_num, rfl, rfl, rfl, HX, hid2⟩
              case measure => show m - ((q : Int) + 1).toNat < m - (q : Int).toNat; omega
        · exfalso
          have h := hid.out
          rw [List.drop_eq_nil_of_le (by have := hm.out; omega)] at h
          cases h
end Go.Proofs.Ytkcchangkhklcaa

/- Contracts of the specification: Chain. -/
namespace Go.Proofs.Ytkcchangkhklcaa
open Go.RowKit

theorem keepG4 {W W' : World} {p0 p1 p2 p3 : Addr} {x0 x1 x2 x3 : Value} (h : W.cell? p0 = some x0 ∧ W.cell? p1 = some x1 ∧ W.cell? p2 = some x2 ∧ W.cell? p3 = some x3) (hb : Below W.heap.size W W') : W'.cell? p0 = some x0 ∧ W'.cell? p1 = some x1 ∧ W'.cell? p2 = some x2 ∧ W'.cell? p3 = some x3 := ⟨kept1 h.1 hb, kept1 h.2.1 hb, kept1 h.2.2.1 hb, kept1 h.2.2.2 hb⟩
set_option linter.unusedSimpArgs false in
set_option maxRecDepth 100000 in
set_option maxHeartbeats 16000000 in
theorem rchain_any (n : Int) (a : Option Addr) (m cap : Nat) (L : List Ch.Lk) (hm : Hid (L.length = m)) (k : Nat) (hE : Ch.EN n L k) (u v : Int) (l : List Nat) (hch : Ch.chain n L k u v = some (l, 0)) (ob dc : Nat) (R2 : Nat → Nat) (w : World) (hL : Hid (LksAt w a L)) (hU : Hid (TB2 n.toNat ob R2 (Ch.tb n L k) w)) :
    Calls Try.prog 22 #[sysV n a m cap, .slice (some ⟨ob, 0, none⟩) n.toNat dc, .int .i64 u, .int .i64 v] w (RwlPost w l) := by
  obtain ⟨ho, _, _, j, hj, hj1, hj2, hj3⟩ := Ch.chain_parts hE hch
  obtain ⟨hck, hu, hv, _⟩ := Ch.opn_at hE ho
  obtain ⟨n1, n2, n3, hok⟩ := Ch.check_ok hck
  obtain ⟨_, _, hTB⟩ := Ch.tb_of hE (by rw [Ch.opn_nil hck, if_pos (Ch.opn_ok ho).2.2])
  have hrg := hTB.range (u := u.toNat) (v := v.toNat) (by omega) (by omega)
  have hTb := Lib.hid fun (W : World) (h : SB w n a m cap L W) => tables_any n a m cap L hm hck W (Lib.hid h.l)
  obtain ⟨N, rfl⟩ : ∃ N : Nat, n = (N : Int) := ⟨n.toNat, by omega⟩
  obtain ⟨p, rfl⟩ : ∃ p : Nat, u = (p : Int) := ⟨u.toNat, by omega⟩
  obtain ⟨q, rfl⟩ : ∃ q : Nat, v = (q : Int) := ⟨v.toNat, by omega⟩
  simp only [Int.toNat_natCast] at *
  have hp : p < N := by omega
  have hq : q < N := by omega
  have hsu := Lib.hid fun (x : Nat) (hx : x < N) => Ch.tabF_sums hok (k := x) (u := p) (v := q) (by omega) hp hq
  obtain ⟨b, hb9⟩ : ∃ b, Ch.tb N L k p q = b := ⟨_, rfl⟩
  rw [hb9] at hj1 hj2 hj3 hrg
  have hjb : b ≠ 1152921504606846976 := fun e => by
    obtain ⟨_, h2, h3⟩ := Ch.bound_some (Ch.chain_parts hE hch).2.1
    have h4 : Ch.tb N L k p q = (Ch.bt N L [] k q).getD p 0 := rfl
    simp only [Int.toNat_natCast] at h2
    rw [← h4, hb9] at h2
    exact h2 e
  have HW := Lib.hid fun (W : World) (tb tc : Nat) (O C : Nat → Nat) (R : Nat → Nat → Nat) (h1 : LksAt W a L) (h2 : TT N (N + 1) tb O C R (Ch.tabF L) W) => rwalk_any N (by omega) a m cap (by have := hm.out; omega) L hm (Lib.hid hok) (N + 1) tb tc O C R (by omega) j q (by omega) hq p b (by omega) (by omega) l (Lib.hid hj3) W (Lib.hid h1) (Lib.hid h2)
  replace hj1 := Lib.hid hj1
  replace hj2 := Lib.hid hj2
  replace hb9 := Lib.hid hb9
  unfold sysV at *
  clear hch hE hck hok ho hTB hj3 hrg
  go_enter Try.func22, Try.ntmps22
  have hJ := Lib.hid (SB.mk (w := w) (n := (N : Int)) (a := a) (m := m) (cap := cap) (W := w.alloc (Obj.cells #[.int .i64 (N : Int), .slice a m cap] 24)) (by simp [go_sem]) (by simp [go_sem]) (hL.out.below (below_alloc (Below.refl _ _) _)) (below_alloc (Below.refl _ _) _))
  have hU1 := Lib.hid (hU.out.below (below_alloc (Below.refl _ _) (Obj.cells #[.int .i64 (N : Int), .slice a m cap] 24)))
  clear hL hU
  go_wp2_with fail
  refine (hTb.out _ hJ.out).mono ?_
  rintro e w2 ⟨tb, tc, O, C, R, rfl, ht, hb⟩
  have hJ2 := Lib.hid (hJ.out.below hb)
  have hU2 := Lib.hid (hU1.out.below hb)
  replace ht := Lib.hid ht
  clear hJ hU1 hb hTb
  go_wp2
  go_loopw [10] (fun i wr => ∃ x : Nat, x ≤ j ∧ i = .int .i64 x ∧ Hid (Below w2.heap.size w2 wr)) (fun i _ => N + 1 - (RowKit.intOf i).toNat)
  case atStart => exact ⟨0, Nat.zero_le _, rfl, Lib.hid (Below.refl _ _)⟩
  case round =>
    obtain ⟨x, hx, rfl, hB⟩ := hrel
    have k0 := kept1 hJ2.out.c0 hB.out
    have hi5 : (x : Int) ≤ (N : Int) := by omega
    have hi6 : (0 : Int) ≤ (x : Int) := by omega
    have hi7 : (x : Int) < ((N : Int) + 1) := by omega
    have hi8 : x < N + 1 := by omega
    have hp0 : (0 : Int) ≤ (p : Int) := by omega
    have hq0 : (0 : Int) ≤ (q : Int) := by omega
    have hp1 : (p : Int) < (N : Int) := by omega
    have hq1 : (q : Int) < (N : Int) := by omega
    have hTx := ht.out.below hB.out
    have hUx := hU2.out.below hB.out
    have d0 := hTx.o x hi8
    have d1 := (hTx.t x hi8).o p hp
    have d2 := (hTx.t x hi8).get hp hq
    have d3 := hUx.o p hp
    have d4 := hUx.get hp hq
    rw [hb9.out] at d4
    rw [hsu.out x (by omega)] at d2
    obtain ⟨ox, hox⟩ : ∃ z, O x = z := ⟨_, rfl⟩
    obtain ⟨cx, hcx⟩ : ∃ z, C x = z := ⟨_, rfl⟩
    obtain ⟨rx, hrx⟩ : ∃ z, R x p = z := ⟨_, rfl⟩
    obtain ⟨rp, hrp⟩ : ∃ z, R2 p = z := ⟨_, rfl⟩
    rw [hox, hcx] at d0
    rw [hox, hrx] at d1
    rw [hrx] at d2
    rw [hrp] at d3 d4
    have HB2 := Lib.hid fun nq => hB.out.trans ((below_drewN (Below.refl wr.heap.size wr) nq).mono hB.out.size)
    clear hTx hUx hox hcx hrx hB
    by_cases hlt : x < j
    · have hne := hj2.out x hlt
      obtain ⟨y, hy⟩ : ∃ y, (Ch.sumsTo N L [] q x).getD p 0 = y := ⟨_, rfl⟩
      rw [hy] at d2 hne
      have hne2 : (y == b) = false := by rw [beq_eq_false_iff_ne]; exact hne
      clear hy hrp
      go_upto_region 5 with fail
      clear k0
      go_quiet (fail)
      have hB := Lib.hid (HB2.out nq)
      clear HB2 d0 d1 d2 d3 d4
      generalize wr.drewN nq = W at *
      go_wp2
      go_roundw
      case rel => exact ⟨x + 1, by omega, by go_num, hB⟩
      case measure => show N + 1 - ((x : Int) + 1).toNat < N + 1 - (x : Int).toNat; omega
    · obtain rfl : x = j := by omega
      rw [hj1.out] at d2
      have hne2 : (b == b) = true := by simp
      go_upto_region 5 with fail
      clear k0
      go_quiet (fail)
      have hB := Lib.hid (HB2.out nq)
      clear HB2 d0 d1 d2 d3 d4
      generalize wr.drewN nq = W at *
      have k0 := kept1 hJ2.out.c0 hB.out
      have k1 := kept1 hJ2.out.c1 hB.out
      have hUx := hU2.out.below hB.out
      have d3 := hUx.o p hp
      have d4 := hUx.get hp hq
      rw [hb9.out, hrp] at d4
      rw [hrp] at d3
      have HWk := Lib.hid (HW.out W.drew tb tc O C R ((hJ2.out.below hB.out).l.below (Below.refl _ _).drew) ((ht.out.below hB.out).below (Below.refl _ _).drew))
      have S0' : W.drew.cell? ⟨w.heap.size, 0, none⟩ = some (.int .i64 (N : Int)) ∧ W.drew.cell? ⟨w.heap.size, 1, none⟩ = some (.slice a m cap) ∧ W.drew.cell? ⟨ob, p, none⟩ = some (.slice (some ⟨rp, 0, none⟩) N N) ∧ W.drew.cell? ⟨rp, q, none⟩ = some (.int .i64 b) := ⟨k0, k1, d3, d4⟩
      have T3 := Lib.hid fun (W' : World) (hb : Below W.drew.heap.size W.drew W') => (hJ2.out.b.trans (hB.out.mono hJ2.out.b.size)).trans ((Below.trans (Below.refl W.heap.size W).drew hb).mono (hJ2.out.b.trans (hB.out.mono hJ2.out.b.size)).size)
      have T4 := Lib.hid (show w.heap.size ≤ W.drew.heap.size from (hJ2.out.b.trans (hB.out.mono hJ2.out.b.size)).size)
      clear k0 k1 d3 d4 hUx hrp hB
      go_upto_region 6 with fail
      go_region_held3 (fun w' => w'.cell? ⟨w.heap.size, 0, none⟩ = some (.int .i64 (N : Int)) ∧ w'.cell? ⟨w.heap.size, 1, none⟩ = some (.slice a m cap) ∧ w'.cell? ⟨ob, p, none⟩ = some (.slice (some ⟨rp, 0, none⟩) N N) ∧ w'.cell? ⟨rp, q, none⟩ = some (.int .i64 b))
        (first | with_reducible exact S0' | with_reducible exact keepG4 (by assumption) hbp)
        (first
        | (go_at_call 51
           with_reducible refine HWk.out.mono ?_
           rintro e wp1 ⟨v1, he, hown1, hbp⟩
           subst he
           skip))
      have hB := T3.out _ hbp
      have ho := owns_base (base' := w.heap.size) hown1 T4.out
      clear hbp hown1 T3 T4 HWk
      go_wp2
      go_ret
      exact ⟨_, rfl, ho, hB⟩

end Go.Proofs.Ytkcchangkhklcaa
