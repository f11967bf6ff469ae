/-
  symindex: what its functions give, as the laws take it; few members as an argument.
-/
import Derived.Test.YtjobmkodgodloaaGreatDoorZSa
import Derived.Test.YtjobmkodgodloaaGreatDoorZWs
import Derived.Test.YtjobmkodgodloaaGreatDoorZWp
import Derived.Test.YtjobmkodgodloaaGreatDoorZAf
namespace Go.Proofs.YtjobmkodgodloaaGreatDoor.Six
open Go.RowKit Go.Proofs Go.Proofs.YtjobmkodgodloaaGreatDoor.Byt
open Go.Proofs.YtjobmkodgodloaaGreatDoor.Sls (Oth)
open Go.Proofs.YtjobmkodgodloaaGreatDoor.Arp (Mem RdM)
open Go.Proofs.YtjobmkodgodloaaGreatDoor.Arw (fitL ints RdM0 fewM fewM_iff core lens MOk)
open Go.Proofs.YtjobmkodgodloaaGreatDoor.Amp (En ecells encA fitA szS enOk_iff fitA_iff RdE)
open Go.Proofs.YtjobmkodgodloaaGreatDoor.Frame (MB)

theorem RComp.reads {xs : List Mem} {w w' : World} {e : Ending} (h : RComp xs w e w') :
   ∃ A n c A1 n1 c1 A2 n2 c2, e = .returned (.tuple #[.slice A n c, .slice A1 n1 c1, .slice A2 n2 c2, .int .i64 (fitL 0 xs).2]) ∧ n = (cOut xs).length ∧ Byt.Rd w' w'.heap.size A n (cOut xs) ∧ RdE w' w'.heap.size A1 n1 (iOut xs) ∧ Cel.Rd w' w'.heap.size A2 n2 1 (ints (oOut xs)) ∧ Below w.heap.size w w' := by
 obtain ⟨v, A1, n1, c1, A2, n2, c2, rfl, ho, h1, h2, hb⟩ := h
 obtain ⟨A, c, rfl, hr, hnc, hc⟩ := ho.reads
 obtain ⟨_, _, e1, r2, _⟩ := h2.reads
 injection e1 with e11 _ e13
 subst e11 e13
 exact ⟨A, _, c, A1, n1, c1, A2, n2, c2, rfl, rfl, hr, Amp.rde_own h1, r2, hb⟩
theorem Few.fits {xs : List Mem} (h0 : (fitL 0 xs).2 = 0) : ∀ x ∈ xs, Arw.fitsM x = 0 := (Arw.fitL_zero 0 xs).1 h0
theorem Few.clen {xs : List Mem} (h : Few xs) : (cOut xs).length ≤ 50000 := by
 unfold cOut
 split
 · rename_i h0
   exact Arw.arch_len (Few.fits h0) h.n h.ok h.len (by rw [idx_size]; have := h.names; omega)
 · simp
/-! ### the same members elsewhere -/
end Go.Proofs.YtjobmkodgodloaaGreatDoor.Six
