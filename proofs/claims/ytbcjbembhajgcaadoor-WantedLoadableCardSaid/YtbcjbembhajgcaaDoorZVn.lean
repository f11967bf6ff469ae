/-
  symtab: the program's Names, Wanted, resolution, Units.
  symtab: the program's Resolved.
-/
import Derived.Test.YtbcjbembhajgcaaDoorZVm
import Derived.Test.YtbcjbembhajgcaaDoorZBi
namespace Go.Proofs.YtbcjbembhajgcaaDoor.Tab
open Go.RowKit Go.Proofs Go.Proofs.YtbcjbembhajgcaaDoor.Byt
open Go.Proofs.YtbcjbembhajgcaaDoor.Bnd

theorem pwanted_any (K : Nat) (r : Option Addr) (mo : Option Nat) (U : ByteArray → List Us) (w : World) (hA : AllOf w r mo) (hM : MapOf w K mo U) (N L : List ByteArray) (hN : Asc N) (hU : ∀ x, U x ≠ [] → x ∈ N) (hNl : N.length ≤ 100000)
    (hL : Asc L) (hmem : ∀ x, x ∈ L ↔ U x ≠ [] ∧ wantd (allL (U x)) = true) :
    Calls Tryd.prog 9 #[.pointer r] w (NmsP L w) := by
  have HW := hid (with_any K r mo U w hA hM 23 wantd (enter_any Tryd.func23 (by kernel_rfl) rfl) wanted_any N L hN hU hNl hL hmem)
  clear hA hM hN hU hNl hL hmem
  go_enter Tryd.func9, Tryd.ntmps9
  go_wp2_with fail
  refine HW.out.mono ?_
  rintro e w1 ⟨A, c, rfl, ho, hb⟩
  go_wp2_with fail
  go_ret
  exact ⟨A, c, rfl, ho, hb⟩

end Go.Proofs.YtbcjbembhajgcaaDoor.Tab

namespace Go.Proofs.YtbcjbembhajgcaaDoor.Tab
open Go.RowKit Go.Proofs Go.Proofs.YtbcjbembhajgcaaDoor.Byt
open Go.Proofs.YtbcjbembhajgcaaDoor.Bnd

end Go.Proofs.YtbcjbembhajgcaaDoor.Tab
