/- The law ChainMore: what its walks share. -/
import Derived.Test.YtpddjofmiakpbaaZLq
import Derived.Test.YtpddjofmiakpbaaZTt
import Derived.Test.YtpddjofmiakpbaaZWo
import Derived.Test.YtpddjofmiakpbaaZ06
import Derived.Test.YtpddjofmiakpbaaZUi
import Derived.BigQuiet
set_option linter.unusedSimpArgs false
set_option linter.unusedVariables false
namespace Go.Proofs.Ytpddjofmiakpbaa
open Go.RowKit

/-- the world in the law: the system and the link in their boxes -/
structure MO (w : World) (n : Int) (a : Option Addr) (m cap : Nat) (L : List Ch.Lk) (f t z : Int) (W : World) : Prop where
  s : SB w n a m cap L W
  l0 : W.cell? ⟨w.heap.size + 1, 0, none⟩ = some (.int .i64 f)
  l1 : W.cell? ⟨w.heap.size + 1, 1, none⟩ = some (.int .i64 t)
  l2 : W.cell? ⟨w.heap.size + 1, 2, none⟩ = some (.int .i64 z)
theorem MO.below {w W W' : World} {n : Int} {a : Option Addr} {m cap : Nat} {L : List Ch.Lk} {f t z : Int} (h : MO w n a m cap L f t z W) (hb : Below W.heap.size W W') : MO w n a m cap L f t z W' := ⟨h.s.below hb, kept1 h.l0 hb, kept1 h.l1 hb, kept1 h.l2 hb⟩
/-- a table -/
structure TBL (N ob S0 : Nat) (D : Nat → Nat → Int) (W : World) : Prop where
  o : W.rowIs ob 32 N (fun u => .slice (some ⟨S0 + u, 0, none⟩) N N)
  r : ∀ u, u < N → W.rowIs (S0 + u) 3 N (fun j => .int .i64 (D u j))
theorem TBL.below {N ob S0 : Nat} {D : Nat → Nat → Int} {W W' : World} (h : TBL N ob S0 D W) (hb : Below W.heap.size W W') : TBL N ob S0 D W' := ⟨Below.row hb h.o, fun u hu => Below.row hb (h.r u hu)⟩
theorem TBL.row {N ob S0 : Nat} {D : Nat → Nat → Int} {W : World} (h : TBL N ob S0 D W) {u : Nat} (hu : u < N) : W.cell? ⟨ob, u, none⟩ = some (.slice (some ⟨S0 + u, 0, none⟩) N N) := h.o.cell hu
theorem TBL.get {N ob S0 : Nat} {D : Nat → Nat → Int} {W : World} (h : TBL N ob S0 D W) {u v : Nat} (hu : u < N) (hv : v < N) : W.cell? ⟨S0 + u, v, none⟩ = some (.int .i64 (D u v)) := (h.r u hu).cell hv

end Go.Proofs.Ytpddjofmiakpbaa
