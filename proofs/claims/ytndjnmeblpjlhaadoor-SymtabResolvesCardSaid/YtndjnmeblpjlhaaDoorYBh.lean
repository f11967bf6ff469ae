/-
  bind: the program's questions; the law's state; the reference's Same.
-/
import Derived.Test.YtndjnmeblpjlhaaDoorYBg
namespace Go.Proofs.YtndjnmeblpjlhaaDoor.Bnd
open Go.RowKit Go.Proofs Go.Proofs.YtndjnmeblpjlhaaDoor.Byt
open Go.Proofs.YtndjnmeblpjlhaaDoor.Obj (Sy)
open Go.Proofs.YtndjnmeblpjlhaaDoor.Arp (RdI)

def wantd (s : St) : Bool := s.sr && !s.dfd
theorem wanted_any (s : St) (v : Value) (w : World) :
    Calls Tryd.prog 24 #[s.val v] w fun e w' => e = .returned (.bool (wantd s)) ∧ Below w.heap.size w w' := by
  have hb := (Below.refl w.heap.size w).alloc (Nat.le_refl _) (.cells (row s v) 41)
  have HD : Hid (wantd s = (s.sr && !s.dfd)) := hid rfl
  obtain ⟨s0, s1, s2, s3, s4, s5, s6, sl⟩ := s
  generalize wantd _ = d at *
  unfold St.val
  simp only [row] at *
  cases s5 <;> cases s4
  all_goals
    go_enter Tryd.func24, Tryd.ntmps24
    go_wp2_with fail
    go_ret
    exact ⟨ret_bool HD.out.symm, hb⟩
end Go.Proofs.YtndjnmeblpjlhaaDoor.Bnd
