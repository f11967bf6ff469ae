/-
  arparse: Parse. arparse: Parse at every byte slice that begins with the magic number. awake of the laws of arparse: it answers true.
-/
import Derived.Test.YtpedngfmjhpojaaDoorZMm
import Derived.Test.YtpedngfmjhpojaaDoorZMl
import Derived.Test.YtpedngfmjhpojaaDoorZMk
import Derived.Test.YtpedngfmjhpojaaDoorZMf
import Derived.Test.YtpedngfmjhpojaaDoorZMa
namespace Go.Proofs.YtpedngfmjhpojaaDoor.Arp
open Go.RowKit Go.Shelf Go.Proofs Go.Proofs.YtpedngfmjhpojaaDoor.Byt Go.Proofs.YtpedngfmjhpojaaDoor.Dec Go.Proofs.YtpedngfmjhpojaaDoor.Lnm Go.Proofs.YtpedngfmjhpojaaDoor.Hdr

attribute [local go_sem] Oper.semAt_some

end Go.Proofs.YtpedngfmjhpojaaDoor.Arp

namespace Go.Proofs.YtpedngfmjhpojaaDoor.Arp
open Go.RowKit Go.Shelf Go.Proofs Go.Proofs.YtpedngfmjhpojaaDoor.Byt Go.Proofs.YtpedngfmjhpojaaDoor.Dec Go.Proofs.YtpedngfmjhpojaaDoor.Lnm Go.Proofs.YtpedngfmjhpojaaDoor.Hdr

attribute [local go_sem] Oper.semAt_some

end Go.Proofs.YtpedngfmjhpojaaDoor.Arp

namespace Go.Proofs.YtpedngfmjhpojaaDoor.Arp
open Go.RowKit Go.Proofs Go.Proofs.YtpedngfmjhpojaaDoor.Byt Go.Proofs.YtpedngfmjhpojaaDoor.Dec Go.Proofs.YtpedngfmjhpojaaDoor.Lnm Go.Proofs.YtpedngfmjhpojaaDoor.Hdr

set_option maxRecDepth 100000 in
theorem rmagic_own (w : World) :
    Calls Tryd.prog 13 #[] w fun e w' => ∃ A c, e = .returned (.slice A 8 c) ∧ Byt.Own w' w.heap.size (.slice A 8 c) 8 magic ∧ Rd w' w'.heap.size A 8 magic ∧ 8 ≤ c ∧ Below w.heap.size w w' := by
  go_enter Tryd.func13, Tryd.ntmps13
  have kc := Lib.run_convert_bytes_const (P := Tryd.prog) w 31 5 #[.int .u8 33, .int .u8 60, .int .u8 97, .int .u8 114, .int .u8 99, .int .u8 104, .int .u8 62, .int .u8 10] 8 8 Tryd.underlying31 Tryd.underlying5
  go_wp2_with fail
  go_ret
  have hown : Byt.Own (w.alloc (.cells #[.int .u8 33, .int .u8 60, .int .u8 97, .int .u8 114, .int .u8 99, .int .u8 104, .int .u8 62, .int .u8 10] 5 (8, 9))) w.heap.size (.slice (some ⟨w.heap.size, 0, none⟩) 8 8) 8 magic :=
    ⟨rfl, .inr ⟨w.heap.size, 8, _, (8, 9), rfl, Nat.le_refl _, heap_alloc_new w _, Nat.le_refl _, by unfold maxLen; omega, rfl, rfl, fun j hj q => by omega⟩⟩
  obtain ⟨A, c, e, hr, hc, _⟩ := hown.reads
  injection e with e1 _ e3
  subst e1 e3
  exact ⟨_, _, rfl, hown, hr, hc, (Below.refl _ w).alloc (Nat.le_refl _) _⟩

end Go.Proofs.YtpedngfmjhpojaaDoor.Arp
