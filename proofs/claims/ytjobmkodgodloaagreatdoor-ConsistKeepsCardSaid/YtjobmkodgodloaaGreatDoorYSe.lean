/-
  symindex: what its functions give, as the laws take it; few members as an argument.
-/
import Derived.Test.YtjobmkodgodloaaGreatDoorYSa
import Derived.Test.YtjobmkodgodloaaGreatDoorYWs
import Derived.Test.YtjobmkodgodloaaGreatDoorYWp
import Derived.Test.YtjobmkodgodloaaGreatDoorYAf
namespace Go.Proofs.YtjobmkodgodloaaGreatDoor.Six
open Go.RowKit Go.Proofs Go.Proofs.YtjobmkodgodloaaGreatDoor.Byt
open Go.Proofs.YtjobmkodgodloaaGreatDoor.Sls (Oth)
open Go.Proofs.YtjobmkodgodloaaGreatDoor.Arp (Mem RdM)
open Go.Proofs.YtjobmkodgodloaaGreatDoor.Arw (fitL ints RdM0 fewM fewM_iff core lens MOk)
open Go.Proofs.YtjobmkodgodloaaGreatDoor.Amp (En ecells encA fitA szS enOk_iff fitA_iff RdE)
open Go.Proofs.YtjobmkodgodloaaGreatDoor.Frame (MB)

theorem RComp.reads {xs : List Mem} {w w' : World} {e : Ending} (h : RComp xs w e w') :
   ∃ A n c A1 n1 c1 A2 n2 c2, e = .returned (.tuple #[.slice A n c, .slice A1 n1 c1, .slice A2 n2 c2, .int .i64 (fitL 0 xs).2]) ∧ n = (cOut xs).length ∧ Byt.Rd w' w'.heap.size A n (cOut xs) ∧ RdE w' w'.heap.size A1 n1 (iOut xs) ∧ Cel.Rd w' w'.heap.size A2 n2 1 (ints (oOut xs)) ∧ Below w.heap.size w w' := by
 obtain ⟨v, A1, n1, c1, A2, n2, c2, rfl, ho, h1, h2, hb⟩ := h
 obtain ⟨A, c, rfl, hr, hnc, hc⟩ := ho.reads
 obtain ⟨_, _, e1, r2, _⟩ := h2.reads
 injection e1 with e11 _ e13
 subst e11 e13
 exact ⟨A, _, c, A1, n1, c1, A2, n2, c2, rfl, rfl, hr, Amp.rde_own h1, r2, hb⟩
theorem Few.fits {xs : List Mem} (h0 : (fitL 0 xs).2 = 0) : ∀ x ∈ xs, Arw.fitsM x = 0 := (Arw.fitL_zero 0 xs).1 h0
theorem Few.clen {xs : List Mem} (h : Few xs) : (cOut xs).length ≤ 50000 := by
 unfold cOut
 split
 · rename_i h0
   exact Arw.arch_len (Few.fits h0) h.n h.ok h.len (by rw [idx_size]; have := h.names; omega)
 · simp
/-! ### the same members elsewhere -/
theorem namesM_core : ∀ xs : List Mem, namesM (xs.map core) = namesM xs
 | [] => rfl
 | x :: r => by rw [List.map_cons, namesM_cons, namesM_cons, namesM_core r]; rfl
theorem entsF_core : ∀ (os : List Nat) (xs : List Mem), entsF os (xs.map core) = entsF os xs
 | [], xs => by simp [entsF]
 | o :: os, [] => rfl
 | o :: os, x :: r => by rw [List.map_cons, entsF, entsF, entsF_core os r]; rfl
theorem offF_core (xs : List Mem) : offF (xs.map core) = offF xs := by
 unfold offF hmF
 rw [namesM_core, Arw.base_core, Arw.offL_core]
theorem idx_core (xs : List Mem) : idx (xs.map core) = idx xs := by
 unfold idx
 rw [offF_core, entsF_core]
theorem cOut_core (xs : List Mem) : cOut (xs.map core) = cOut xs := by
 unfold cOut hmF
 rw [Arw.fitL_core, namesM_core, idx_core, Arw.arch_core]
theorem iOut_core (xs : List Mem) : iOut (xs.map core) = iOut xs := by
 unfold iOut
 rw [Arw.fitL_core, idx_core]
theorem oOut_core (xs : List Mem) : oOut (xs.map core) = oOut xs := by
 unfold oOut
 rw [Arw.fitL_core, offF_core]
theorem lens_core (xs : List Mem) : lens (xs.map core) = lens xs := by
 unfold lens
 rw [List.map_map]
 rfl
theorem Few.core {xs ys : List Mem} (h : Few xs) (he : ys.map core = xs.map core) : Few ys := by
 refine ⟨by rw [Arw.core_len he]; exact h.n, Arw.core_mok he h.ok, fun y hy => ?_, by rw [← lens_core, he, lens_core]; exact h.all⟩
 have h1 : Arw.core y ∈ xs.map Arw.core := by rw [← he]; exact List.mem_map_of_mem hy
 obtain ⟨x, hx, e⟩ := List.mem_map.1 h1
 have h2 := h.len x hx
 have e1 : y.data = x.data := (congrArg Mem.data e).symm
 have e2 : y.len = x.len := (congrArg Mem.len e).symm
 rw [e1, e2]
 exact h2
theorem same_out {xs ys : List Mem} (he : ys.map core = xs.map core) : cOut ys = cOut xs ∧ iOut ys = iOut xs ∧ oOut ys = oOut xs ∧ fitL 0 ys = fitL 0 xs := by
 refine ⟨by rw [← cOut_core, he, cOut_core], by rw [← iOut_core, he, iOut_core], by rw [← oOut_core, he, oOut_core], ?_⟩
 rw [← Arw.fitL_core 0 ys, he, Arw.fitL_core]
end Go.Proofs.YtjobmkodgodloaaGreatDoor.Six
