/-
  What the laws of arparse want of slices of members and of numbers: append of a slice that is read; the header of an appended member.
-/
import Derived.Test.YtjobmkodgodloaaGreatDoorZMn
import Derived.Test.YtjobmkodgodloaaGreatDoorZOa
import Derived.Test.YtjobmkodgodloaaGreatDoorZMk
namespace Go.Proofs.YtjobmkodgodloaaGreatDoor.Arp
open Go.RowKit Go.Proofs Go.Proofs.YtjobmkodgodloaaGreatDoor.Byt Go.Proofs.YtjobmkodgodloaaGreatDoor.Dec Go.Proofs.YtjobmkodgodloaaGreatDoor.Lnm Go.Proofs.YtjobmkodgodloaaGreatDoor.Hdr
theorem go_count : ∀ (j a : Nat) (s t : St) (l : List UInt8) (k : Nat), l.length ≤ j → go s a l = (t, k, 0) → t.mems.length ≤ s.mems.length + l.length := by
 intro j
 induction j with
 | zero =>
   intro a s t l k hj q
   obtain rfl : l = [] := List.eq_nil_of_length_eq_zero (by omega)
   rw [go_nil] at q
   injection q with q
   subst q
   omega
 | succ j ih =>
   intro a s t l k hj q
   by_cases h0 : l = []
   · subst h0
     rw [go_nil] at q
     injection q with q
     subst q
     omega
   · by_cases he : stepE s l = 0
     · have h1 := plen_pos l
       have h2 := (perr_ok (stepE_ok he)).2.1
       rw [go_on h0 he] at q
       have h3 := ih _ _ _ _ _ (by rw [List.length_drop]; omega) q
       rw [List.length_drop] at h3
       have h4 : (stepS s a l).mems.length ≤ s.mems.length + 1 := by
         unfold stepS
         split
         · show s.mems.length ≤ _; omega
         · split
           · show s.mems.length ≤ _; omega
           · simp
       omega
     · rw [go_bad h0 he] at q
       injection q with _ q
       injection q with _ q
       exact absurd q he
theorem ar_count {l : List UInt8} {t : St} (h : ar l = (t, 0, 0)) : t.mems.length ≤ l.length := by
 rw [ar_go (ar_isAr h)] at h
 have := go_count _ _ _ _ _ _ (Nat.le_refl _) h
 rw [List.length_drop] at this
 have h0 : St.zero.mems.length = 0 := rfl
 omega
end Go.Proofs.YtjobmkodgodloaaGreatDoor.Arp
