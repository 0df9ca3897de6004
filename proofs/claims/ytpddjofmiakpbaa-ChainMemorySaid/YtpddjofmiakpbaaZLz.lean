/- The law ChainMemory, walked. -/
import Derived.Test.YtpddjofmiakpbaaZLo
import Derived.Test.YtpddjofmiakpbaaZWt
import Derived.Test.YtpddjofmiakpbaaZ06
set_option linter.unusedSimpArgs false
set_option linter.unusedVariables false
namespace Ch
theorem withE_nil {n : Int} {L : List Lk} : withE n L [] = (check n L).1 := by
  unfold withE
  by_cases h : (check n L).1 = 0
  · obtain ⟨_, _, h3, _⟩ := check_ok h
    rw [if_neg (by omega), if_neg (by show ¬ (300 : Int) - L.length < ((0 : Nat) : Int); omega), List.append_nil]
  · rw [if_pos h]
theorem wo_nil : ∀ {L : List Lk}, wo L [] L.length = L := by
  intro L
  unfold wo
  have h1 : (List.range L.length).filter (fun i : Nat => !decide ((i : Int) ∈ ([] : List Int))) = List.range L.length := by
    rw [List.filter_eq_self]
    intro i _
    simp
  rw [h1]
  apply List.ext_getElem
  · simp
  · intro i h2 h3
    simp [List.getD, List.getElem?_eq_getElem h3]
end Ch
namespace Go.Proofs.Ytpddjofmiakpbaa
open Go.RowKit

theorem own_ws {w : World} {base size n : Nat} {e : TypeId} {v : Value} {xs : List Value} (h : w.ownsRow base e size v n xs) (hb : base ≤ w.heap.size) :
    ∃ (p : Option Addr) (ca ga : Nat), v = .slice p n ca ∧ base ≤ ga ∧ ga ≠ w.heap.size ∧ (0 < n → p = some ⟨ga, 0, none⟩ ∧ ∃ f N, w.rowIs ga e N f ∧ n * size ≤ N) := by
  obtain ⟨hl, h2⟩ := h
  rcases h2 with ⟨hv, h0⟩ | ⟨g, cap, cur, hv, hbg, hg, hle, hcm, hs, ht⟩
  · exact ⟨none, 0, w.heap.size + 7, by rw [hv, h0], by omega, by omega, fun h => by omega⟩
  · refine ⟨_, cap, g, hv, hbg, ?_, fun _ => ⟨rfl, fun i => (cur[i]?).getD undef, cur.size, ⟨cur, hg, rfl, fun i hi => ?_⟩, ?_⟩⟩
    · have := (Array.getElem?_eq_some_iff.1 hg).1
      omega
    · show cur[i]? = some ((cur[i]?).getD undef)
      rw [Array.getElem?_eq_getElem (by omega)]; rfl
    · rw [hs]; exact Nat.mul_le_mul_right _ hle
theorem add_block (x : Addr) (k : Nat) : (x.add k).block = x.block := by unfold Addr.add; split <;> rfl
/-- a system in a box, all of it below B -/
structure SXB (B xb : Nat) (n : Int) (a : Option Addr) (m cap : Nat) (L : List Ch.Lk) (W : World) : Prop where
  c0 : W.cell? ⟨xb, 0, none⟩ = some (.int .i64 n)
  c1 : W.cell? ⟨xb, 1, none⟩ = some (.slice a m cap)
  l : ∀ k, k < L.length → ∃ x, a = some x ∧ x.block < B ∧ LkAt W (x.add (k * 3)) (L.getD k Ch.noLk)
  xb : xb < B
theorem SXB.lks {B xb : Nat} {n : Int} {a : Option Addr} {m cap : Nat} {L : List Ch.Lk} {W : World} (h : SXB B xb n a m cap L W) : LksAt W a L := fun k hk => by
  obtain ⟨x, h1, _, h3⟩ := h.l k hk
  exact ⟨x, h1, h3⟩
theorem SXB.but {B xb : Nat} {n : Int} {a : Option Addr} {m cap : Nat} {L : List Ch.Lk} {T : Nat → Prop} {W W' : World} (h : SXB B xb n a m cap L W) (hb : But T W W') (hT : ∀ b, b < B → ¬ T b) : SXB B xb n a m cap L W' :=
  ⟨hb.kept h.c0 (hT _ h.xb), hb.kept h.c1 (hT _ h.xb), fun k hk => by
    obtain ⟨x, h1, h2, g0, g1, g2⟩ := h.l k hk
    have hn : ¬ T (x.add (k * 3)).block := hT _ (by rw [add_block]; exact h2)
    exact ⟨x, h1, h2, hb.kept g0 hn, hb.kept g1 hn, hb.kept g2 hn⟩, h.xb⟩
theorem sxb_of {B xb : Nat} {n : Int} {a : Option Addr} {m cap : Nat} {L : List Ch.Lk} {W : World} (c0 : W.cell? ⟨xb, 0, none⟩ = some (.int .i64 n)) (c1 : W.cell? ⟨xb, 1, none⟩ = some (.slice a m cap)) (hl : LksAt W a L) (hB : W.heap.size ≤ B) : SXB B xb n a m cap L W :=
  ⟨c0, c1, fun k hk => by
    obtain ⟨x, h1, h3⟩ := hl k hk
    have := block_lt_of_cell h3.1
    rw [add_block] at this
    exact ⟨x, h1, by omega, h3⟩, by
    have : xb < W.heap.size := block_lt_of_cell c0
    omega⟩
/-- the world in the law: the system, and its copy -/
structure MJ (w : World) (B : Nat) (n : Int) (a : Option Addr) (m cap : Nat) (L : List Ch.Lk) (ob : Nat) (po : Option Addr) (co : Nat) (W : World) : Prop where
  s : SXB B w.heap.size n a m cap L W
  o : SXB B ob n po m co L W
  b : Below w.heap.size w W
  hB : B ≤ W.heap.size
  wB : w.heap.size ≤ B
theorem MJ.but {w W W' : World} {B : Nat} {n : Int} {a po : Option Addr} {m cap ob co : Nat} {L : List Ch.Lk} {T : Nat → Prop} (h : MJ w B n a m cap L ob po co W) (hb : But T W W') (hT : ∀ b, b < B → ¬ T b) : MJ w B n a m cap L ob po co W' :=
  ⟨h.s.but hb hT, h.o.but hb hT, h.b.trans (hb.below h.b.size (fun k hk => hT k (by have := h.wB; omega))), Nat.le_trans h.hB hb.size, h.wB⟩
theorem MJ.below {w W W' : World} {B : Nat} {n : Int} {a po : Option Addr} {m cap ob co : Nat} {L : List Ch.Lk} (h : MJ w B n a m cap L ob po co W) (hb : Below W.heap.size W W') : MJ w B n a m cap L ob po co W' :=
  h.but (T := fun _ => False) ((But.of_below hb).mono (fun _ _ h => h)) (fun _ _ h => h)
/-- a row that is written -/
def WR (W : World) (ga : Nat) (e : TypeId) (len : Nat) : Prop := ∃ f N, W.rowIs ga e N f ∧ len ≤ N
theorem WR.set {W : World} {ga len i : Nat} {e : TypeId} (h : WR W ga e len) (v : Value) : WR (W.setCell ⟨ga, i, none⟩ v) ga e len := by
  obtain ⟨f, N, h1, h2⟩ := h
  exact ⟨_, N, h1.set i v, h2⟩
theorem WR.cell {W : World} {ga len i : Nat} {e : TypeId} (h : WR W ga e len) (hi : i < len) : (∃ x, W.cell? ⟨ga, i, none⟩ = some x) ∧ W.frozen? ⟨ga, i, none⟩ = false := by
  obtain ⟨f, N, h1, h2⟩ := h
  exact ⟨⟨_, h1.cell (by omega)⟩, h1.frozen i⟩

set_option maxRecDepth 100000 in
set_option maxHeartbeats 8000000 in
theorem mem_walk (n : Int) (a : Option Addr) (m cap : Nat) (u v : Int) (L : List Ch.Lk) (hm : Hid (L.length = m)) (hm9 : m ≤ 310) (hsm : Hid ((decide (m ≤ 310) && decide (n ≤ 70)) = true)) (ha : Hid (a = none → cap = 0)) (k : Nat) (hE : Ch.EN n L k) (w : World) (hL : Hid (LksAt w a L)) :
    Calls Try.prog 11 #[sysV n a m cap, .int .i64 u, .int .i64 v] w (LawPost w) := by
  have HSm := Lib.hid fun (W : World) => small_any n a m cap true hsm W
  have HSa := Lib.hid fun (W : World) => sanity_any W
  have hnil := fun (W : World) => (fun k hk => absurd hk (by simp) : LksAt W none [])
  have HRw := Lib.hid fun (W : World) (h : LksAt W a L) => rwith_any n a none m 0 cap 0 L [] hm (Lib.hid rfl) ha (Lib.hid fun _ => rfl) (by omega) (by omega) W (Lib.hid h) (Lib.hid (hnil W))
  rw [List.append_nil] at HRw
  have HWt := Lib.hid fun (W : World) (h : LksAt W a L) => withoutS_any n a none m 0 cap 0 L [] hm (Lib.hid rfl) (by omega) W (Lib.hid h) (Lib.hid fun k hk => absurd hk (by simp))
  have HWi := Lib.hid fun (W : World) (h : LksAt W a L) => with_any n a none m 0 cap 0 L [] hm (Lib.hid rfl) ha (Lib.hid fun _ => rfl) (by omega) W (Lib.hid h) (Lib.hid (hnil W))
  obtain ⟨cl, er2, hch, hce, hc1, hc2⟩ := Ch.chain_ex hE.en hE.cons u v (n := n) (L := L) (k := k)
  have hcl9 : cl.length ≤ 310 := by
    by_cases h : er2 = 0
    · have h1 := (hc2 h).2.1
      have h2 := (Ch.check_ok (Ch.opn_at hE (Ch.bound_some (by rw [← hce]; exact h)).1).1).2.1
      omega
    · rw [hc1 h]; simp
  clear hce hc1 hc2
  have HCh := Lib.hid fun (W : World) (h : LksAt W a L) => chain_any n a cap L u v k hE.en cl er2 hch W h
  have HSo := Lib.hid fun (W : World) (po : Option Addr) (co : Nat) (h : LksAt W a L) (h' : LksAt W po L) => same_any n n a po m m cap co L L hm hm (by omega) true (Lib.hid (by simp)) W (Lib.hid h) (Lib.hid h')
  have ewo := Ch.wo_nil (L := L)
  rw [hm.out] at ewo HCh
  obtain ⟨er, her⟩ : ∃ er, (Ch.check n L).1 = er := ⟨_, rfl⟩
  rw [ewo, her] at HWt
  rw [Ch.withE_nil, her] at HWi
  have hself : (er == er) = true := by simp
  have hself2 : (er2 == er2) = true := by simp
  unfold sysV at *
  clear hE hch her ewo hnil
  go_enter Try.func11, Try.ntmps11
  go_wp2_with fail
  refine (HSm.out _).mono ?_
  rintro e w1 ⟨rfl, hb⟩
  have hB1 := bstep1 (Below.refl _ _) hb
  have k0 : w1.cell? ⟨w.heap.size, 0, none⟩ = some (.int .i64 n) := kept1 (by simp [go_sem]) hb
  have k1 : w1.cell? ⟨w.heap.size, 1, none⟩ = some (.slice a m cap) := kept1 (by simp [go_sem]) hb
  clear hb HSm hsm
  go_wp2_with fail
  refine (HRw.out _ (hL.out.below hB1)).mono ?_
  rintro e w2 ⟨vo, rfl, hown, hb⟩
  obtain ⟨po, co, rfl, hK⟩ := lks_of_owns hown
  rw [hm.out]
  have hA : Below w2.heap.size w2 (w2.alloc (Obj.cells #[.int .i64 n, .slice po m co] 24)) := (Below.refl _ _).alloc (Nat.le_refl _) _
  have hB2 := (hB1.trans (hb.mono hB1.size)).trans (hA.mono (Nat.le_trans hB1.size hb.size))
  have hJ2 : Hid (MJ w (w2.heap.size + 1) n a m cap L w2.heap.size po co (w2.alloc (Obj.cells #[.int .i64 n, .slice po m co] 24))) := Lib.hid ⟨sxb_of (kept1 (kept1 k0 hb) hA) (kept1 (kept1 k1 hb) hA) (hL.out.below hB2) (by simp), sxb_of (by simp [go_sem]) (by simp [go_sem]) (hK.below hA) (by simp), hB2, by simp, by have h1 := hB1.size; have h2 := hb.size; omega⟩
  clear hb hK hown hA hB2 hB1 k0 k1 HRw hL
  have k0 := hJ2.out.s.c0
  have k1 := hJ2.out.s.c1
  go_wp2_with fail
  generalize w2.alloc (Obj.cells #[.int .i64 n, .slice po m co] 24) = W2 at *
  generalize w2.heap.size = ob at *
  generalize ob + 1 = B at *
  refine (HWt.out _ hJ2.out.s.lks).mono ?_
  rintro e w3 ⟨kk, va, rfl, hx1, hx2, hb⟩
  obtain ⟨La, hown, hla9⟩ : ∃ La : List Ch.Lk, w3.ownsRow W2.heap.size 63 3 va La.length (lkCells La) ∧ La.length ≤ 310 := by
    by_cases h : er = 0
    · exact ⟨_, (hx2 h).2, by rw [hm.out]; exact hm9⟩
    · rw [(hx1 h).2]; exact ⟨[], World.ownsRow_nil _ _ _ _, by simp⟩
  obtain ⟨p, ca, ga, rfl, hga1, hgn, hp1⟩ := own_ws hown hb.size
  obtain ⟨la, hla⟩ : ∃ la, La.length = la := ⟨_, rfl⟩
  rw [hla] at hp1 hla9
  rw [hla]
  have hga : B ≤ ga := Nat.le_trans hJ2.out.hB hga1
  have hA : Below w3.heap.size w3 (w3.alloc (Obj.cells #[.int .i64 kk, .slice p la ca] 24)) := (Below.refl _ _).alloc (Nat.le_refl _) _
  have hJ3 := Lib.hid ((hJ2.out.below hb).below hA)
  have hbx : Hid ((w3.alloc (Obj.cells #[.int .i64 kk, .slice p la ca] 24)).cell? ⟨w3.heap.size, 1, none⟩ = some (.slice p la ca)) := Lib.hid (by simp [go_sem])
  have hWR : Hid (0 < la → WR (w3.alloc (Obj.cells #[.int .i64 kk, .slice p la ca] 24)) ga 63 (la * 3)) := Lib.hid fun h => by
    obtain ⟨_, f, N, h1, h2⟩ := hp1 h
    exact ⟨f, N, h1.alloc _, h2⟩
  have hp := Lib.hid fun h => (hp1 h).1
  have hgb : w3.heap.size ≠ ga := fun e => hgn e.symm
  clear hb hJ2 hx1 hx2 hown hp1 hga1 hgn hla HWt k0 k1
  go_upto_region 5 with fail
  generalize w3.alloc (Obj.cells #[.int .i64 kk, .slice p la ca] 24) = W3 at *
  generalize w3.heap.size = ab at *
  go_wp2
  go_loopw [10] (fun i wr => ∃ k : Nat, k ≤ la ∧ i = .int .i64 k ∧ Hid (MJ w B n a m cap L ob po co wr) ∧ Hid (wr.cell? ⟨ab, 1, none⟩ = some (.slice p la ca)) ∧ Hid (0 < la → WR wr ga 63 (la * 3))) (fun i _ => la - (RowKit.intOf i).toNat)
  case atStart => exact ⟨0, Nat.zero_le _, rfl, hJ3, hbx, hWR⟩
  case round =>
    clear hJ3 hWR hbx
    obtain ⟨k, hk, rfl, hJ, hbx, hW⟩ := hrel
    have k0 := hJ.out.s.c0
    have k1 := hJ.out.s.c1
    have b1 := hbx.out
    by_cases hlt : k < la
    · have hi5 : (k : Int) < (la : Int) := by omega
      have hi6 : (0 : Int) ≤ (k : Int) := by omega
      have hpe := hp.out (by omega)
      subst hpe
      have hWk := hW.out (by omega)
      obtain ⟨⟨x, hx⟩, hfz⟩ := hWk.cell (i := k * 3 + 2) (by omega)
      have hJ2 := Lib.hid (hJ.out.but ((But.refl (fun b => b = ga) wr).setCell (p := ⟨ga, k * 3 + 2, none⟩) (.inr rfl) (.int .i64 (7))) (fun b hb e => by have := hga; omega))
      have hW2 : Hid (0 < la → WR (wr.setCell ⟨ga, k * 3 + 2, none⟩ (.int .i64 (7))) ga 63 (la * 3)) := Lib.hid fun _ => hWk.set _
      have hbx2 := Lib.hid (cell_set_ne (v := .int .i64 (7)) (q := ⟨ga, k * 3 + 2, none⟩) b1 (by simpa using hgb))
      clear hJ hW hWk k0 k1
      go_wp2
      go_roundw
      case rel => exact ⟨k + 1, by omega, by go_num, hJ2, hbx2, hW2⟩
      case measure => show la - ((k : Int) + 1).toNat < la - (k : Int).toNat; omega
    · obtain rfl : k = la := by omega
      have hi5 : ¬ (k : Int) < (k : Int) := by omega
      clear hW hp hga
      have b1 := hbx.out
      go_wp2_with fail
      refine (HWi.out _ hJ.out.s.lks).mono ?_
      rintro e w4 ⟨kk2, va2, rfl, hx1, hx2, hb⟩
      obtain ⟨La2, hown, hla9⟩ : ∃ La : List Ch.Lk, w4.ownsRow wr.heap.size 63 3 va2 La.length (lkCells La) ∧ La.length ≤ 310 := by
        by_cases h : er = 0
        · have h2 := (hx2 h).2
          rw [← List.length_append] at h2
          exact ⟨_, h2, by rw [List.append_nil, hm.out]; exact hm9⟩
        · rw [(hx1 h).2]; exact ⟨[], World.ownsRow_nil _ _ _ _, by simp⟩
      have hJ4 := Lib.hid (hJ.out.below hb)
      have hszw := hJ.out.hB
      have hszb := hb.size
      clear hJ hbx b1 k0 k1 hb hx1 hx2 HWi hgb
      obtain ⟨p, ca, ga, rfl, hga1, hgn, hp1⟩ := own_ws hown hszb
      obtain ⟨la, hla⟩ : ∃ la, La2.length = la := ⟨_, rfl⟩
      rw [hla] at hp1 hla9
      rw [hla]
      have hga : B ≤ ga := Nat.le_trans hszw hga1
      have hA : Below w4.heap.size w4 (w4.alloc (Obj.cells #[.int .i64 kk2, .slice p la ca] 24)) := (Below.refl _ _).alloc (Nat.le_refl _) _
      have hJ5 := Lib.hid (hJ4.out.below hA)
      have hbx : Hid ((w4.alloc (Obj.cells #[.int .i64 kk2, .slice p la ca] 24)).cell? ⟨w4.heap.size, 1, none⟩ = some (.slice p la ca)) := Lib.hid (by simp [go_sem])
      have hWR : Hid (0 < la → WR (w4.alloc (Obj.cells #[.int .i64 kk2, .slice p la ca] 24)) ga 63 (la * 3)) := Lib.hid fun h => by
        obtain ⟨_, f, N, h1, h2⟩ := hp1 h
        exact ⟨f, N, h1.alloc _, h2⟩
      have hp := Lib.hid fun h => (hp1 h).1
      have hgb : w4.heap.size ≠ ga := fun e => hgn e.symm
      clear hJ4 hown hp1 hga1 hgn hla hA hszw hszb
      go_upto_region 10 with fail
      generalize w4.alloc (Obj.cells #[.int .i64 kk2, .slice p la ca] 24) = W5 at *
      generalize w4.heap.size = ab2 at *
      go_wp2
      go_loopw [13] (fun i wr => ∃ k : Nat, k ≤ la ∧ i = .int .i64 k ∧ Hid (MJ w B n a m cap L ob po co wr) ∧ Hid (wr.cell? ⟨ab2, 1, none⟩ = some (.slice p la ca)) ∧ Hid (0 < la → WR wr ga 63 (la * 3))) (fun i _ => la - (RowKit.intOf i).toNat)
      case atStart => exact ⟨0, Nat.zero_le _, rfl, hJ5, hbx, hWR⟩
      case round =>
        clear hJ5 hWR hbx
        obtain ⟨k, hk, rfl, hJ, hbx, hW⟩ := hrel
        have k0 := hJ.out.s.c0
        have k1 := hJ.out.s.c1
        have b1 := hbx.out
        by_cases hlt : k < la
        · have hi5 : (k : Int) < (la : Int) := by omega
          have hi6 : (0 : Int) ≤ (k : Int) := by omega
          have hpe := hp.out (by omega)
          subst hpe
          have hWk := hW.out (by omega)
          obtain ⟨⟨x, hx⟩, hfz⟩ := hWk.cell (i := k * 3) (by omega)
          have hJ2 := Lib.hid (hJ.out.but ((But.refl (fun b => b = ga) wr).setCell (p := ⟨ga, k * 3, none⟩) (.inr rfl) (.int .i64 (-1))) (fun b hb e => by have := hga; omega))
          have hW2 : Hid (0 < la → WR (wr.setCell ⟨ga, k * 3, none⟩ (.int .i64 (-1))) ga 63 (la * 3)) := Lib.hid fun _ => hWk.set _
          have hbx2 := Lib.hid (cell_set_ne (v := .int .i64 (-1)) (q := ⟨ga, k * 3, none⟩) b1 (by simpa using hgb))
          clear hJ hW hWk k0 k1
          go_wp2
          go_roundw
          case rel => exact ⟨k + 1, by omega, by go_num, hJ2, hbx2, hW2⟩
          case measure => show la - ((k : Int) + 1).toNat < la - (k : Int).toNat; omega
        · obtain rfl : k = la := by omega
          have hi5 : ¬ (k : Int) < (k : Int) := by omega
          clear hW hp hga
          go_wp2_with fail
          refine (HCh.out _ hJ.out.s.lks).mono ?_
          rintro e w6 ⟨vc, rfl, hown, hb⟩
          have hJ6 := Lib.hid (hJ.out.below hb)
          have hszw := hJ.out.hB
          have hszb := hb.size
          clear hJ hbx k0 k1 hb hgb
          obtain ⟨p, ca, ga, rfl, hga1, hgn, hp1⟩ := own_ws hown hszb
          obtain ⟨la, hla⟩ : ∃ la, cl.length = la := ⟨_, rfl⟩
          have hla9 := hcl9
          rw [hla] at hp1 hla9
          rw [hla]
          have hga : B ≤ ga := Nat.le_trans hszw hga1
          have hWR : Hid (0 < la → WR w6 ga 3 (la * 1)) := Lib.hid fun h => by
            obtain ⟨_, f, N, h1, h2⟩ := hp1 h
            exact ⟨f, N, h1, h2⟩
          have hp := Lib.hid fun h => (hp1 h).1
          clear hown hp1 hga1 hgn hszw hszb
          replace hla := Lib.hid hla
          go_upto_region 15 with fail
          go_wp2
          go_loopw [16] (fun i wr => ∃ k : Nat, k ≤ la ∧ i = .int .i64 k ∧ Hid (MJ w B n a m cap L ob po co wr) ∧ Hid (0 < la → WR wr ga 3 (la * 1))) (fun i _ => la - (RowKit.intOf i).toNat)
          case atStart => exact ⟨0, Nat.zero_le _, rfl, hJ6, hWR⟩
          case round =>
            clear hJ6 hWR
            obtain ⟨k, hk, rfl, hJ, hW⟩ := hrel
            have k0 := hJ.out.s.c0
            have k1 := hJ.out.s.c1
            by_cases hlt : k < la
            · have hi5 : (k : Int) < (la : Int) := by omega
              have hi6 : (0 : Int) ≤ (k : Int) := by omega
              have hpe := hp.out (by omega)
              subst hpe
              have hWk := hW.out (by omega)
              obtain ⟨⟨x, hx⟩, hfz⟩ := hWk.cell (i := k) (by omega)
              have hJ2 := Lib.hid (hJ.out.but ((But.refl (fun b => b = ga) wr).setCell (p := ⟨ga, k, none⟩) (.inr rfl) (.int .i64 (-5))) (fun b hb e => by have := hga; omega))
              have hW2 : Hid (0 < la → WR (wr.setCell ⟨ga, k, none⟩ (.int .i64 (-5))) ga 3 (la * 1)) := Lib.hid fun _ => hWk.set _
              clear hJ hW hWk k0 k1
              go_wp2
              go_roundw
              case rel => exact ⟨k + 1, by omega, by go_num, hJ2, hW2⟩
              case measure => show la - ((k : Int) + 1).toNat < la - (k : Int).toNat; omega
            · obtain rfl : k = la := by omega
              have hi5 : ¬ (k : Int) < (k : Int) := by omega
              clear hW hp hga
              go_wp2_with fail
              refine (HCh.out _ hJ.out.s.lks).mono ?_
              rintro e w7 ⟨vc, rfl, hown, hb⟩
              have hJ7 := Lib.hid (hJ.out.below hb)
              clear hJ k0 k1 hb HCh
              obtain ⟨p, ca, rfl, hci, _⟩ := ints_of_own hown
              rw [hla.out]
              replace hci := Lib.hid hci
              clear hown
              go_wp2
              go_loopw [19] (fun i wr => ∃ j : Nat, j ≤ k ∧ i = .int .i64 j ∧ wr = w7) (fun i _ => k - (RowKit.intOf i).toNat)
              case atStart => exact ⟨0, Nat.zero_le _, rfl, rfl⟩
              case round =>
                obtain ⟨j, hj, rfl, rfl⟩ := hrel
                by_cases hlt : j < k
                · obtain ⟨x, hx, hcx⟩ := hci.out j (by rw [Ch.ints_len, hla.out]; exact hlt)
                  subst hx
                  have hz : ∃ z : Nat, (Ch.ints cl).getD j 0 = (z : Int) := ⟨(cl[j]?).getD 0, by
                    unfold Ch.ints
                    rw [List.getD, List.getElem?_map]
                    cases cl[j]? <;> rfl⟩
                  obtain ⟨z, hz⟩ := hz
                  rw [hz] at hcx
                  have hi5 : (j : Int) < (k : Int) := by omega
                  have hi6 : (0 : Int) ≤ (j : Int) := by omega
                  have hz0 : ¬ (z : Int) < 0 := by omega
                  clear hz
                  go_wp2
                  go_roundw
                  case rel => exact ⟨j + 1, by omega, by go_num, by first | rfl | trivial⟩
                  case measure => show k - ((j : Int) + 1).toNat < k - (j : Int).toNat; omega
                · obtain rfl : j = k := by omega
                  have hi5 : ¬ (j : Int) < (j : Int) := by omega
                  clear hci
                  go_wp2_with fail
                  refine (HSa.out _).mono ?_
                  rintro e w8 ⟨rfl, hb⟩
                  have hJ8 := Lib.hid (hJ7.out.below hb)
                  clear hb hJ7 HSa
                  have k0 := hJ8.out.s.c0
                  have k1 := hJ8.out.s.c1
                  have o0 := hJ8.out.o.c0
                  have o1 := hJ8.out.o.c1
                  go_wp2_with fail
                  refine (HSo.out _ _ _ hJ8.out.s.lks hJ8.out.o.lks).mono ?_
                  rintro e w9 ⟨rfl, hb⟩
                  have hB := hJ8.out.b.trans (hb.mono hJ8.out.b.size)
                  clear hb hJ8 k0 k1 o0 o1
                  go_wp2
                  go_ret
                  exact ⟨rfl, hB⟩
set_option maxRecDepth 100000 in
set_option maxHeartbeats 8000000 in
theorem mem_other (n : Int) (a : Option Addr) (m cap : Nat) (u v : Int) (hsm : Hid ((decide (m ≤ 310) && decide (n ≤ 70)) = false)) (w : World) :
    Calls Try.prog 11 #[sysV n a m cap, .int .i64 u, .int .i64 v] w (LawPost w) := by
  have HSa := Lib.hid fun (W : World) => sanity_any W
  have HSm := Lib.hid fun (W : World) => small_any n a m cap false hsm W
  clear hsm
  unfold sysV at *
  go_enter Try.func11, Try.ntmps11
  go_wp2_with fail
  refine (HSm.out _).mono ?_
  rintro e w1 ⟨rfl, hb⟩
  have hB1 := bstep1 (Below.refl _ _) hb
  clear hb HSm
  go_wp2_with fail
  refine (HSa.out _).mono ?_
  rintro e w4 ⟨rfl, hb⟩
  have hB := hB1.trans (hb.mono hB1.size)
  clear hb hB1
  go_wp2
  go_ret
  exact ⟨rfl, hB⟩
/-- the law -/
theorem chainMemory_true (w : World) (n : Int) (a : Option Addr) (m cap : Nat) (_ : I64 n) (ha : a = none → cap = 0) (_ : m ≤ maxLen) (L : List Ch.Lk) (hm : L.length = m) (hL : LksAt w a L) (_ : ∀ i, i < m → I64l (L.getD i Ch.noLk)) (u : Int) (_ : I64 u) (v : Int) (_ : I64 v) :
    Calls Try.prog 11 #[sysV n a m cap, .int .i64 u, .int .i64 v] w (LawPost w) := by
  obtain ⟨K, hK⟩ := Ch.en_ex n L
  cases h : (decide (m ≤ 310) && decide (n ≤ 70))
  · exact mem_other n a m cap u v (Lib.hid h) w
  · have h9 : m ≤ 310 := by
      rw [Bool.and_eq_true, decide_eq_true_eq] at h
      exact h.1
    exact mem_walk n a m cap u v L (Lib.hid hm) h9 (Lib.hid h) (Lib.hid ha) K (hK K (Nat.le_refl _)) w (Lib.hid hL)
end Go.Proofs.Ytpddjofmiakpbaa
