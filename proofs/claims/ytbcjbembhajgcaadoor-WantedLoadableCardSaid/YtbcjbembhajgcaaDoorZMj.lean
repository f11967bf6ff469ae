/-
  The reference of longname: Table, Build, Texts, Few. The reference of longname: Texts, Few, Entries. The reference of longname: Entries. The reference of longname: Resolve, at a table that is one. The reference of arparse: Numbers. The reference of arparse: SameMember. Slices of members in memory; the reference of arparse: SameMembers. The reference of arparse: SameMembers. Archives by value; the reference of arparse: Same.
-/
import Derived.Test.YtbcjbembhajgcaaDoorZLne
import Derived.Test.YtbcjbembhajgcaaDoorZMa
import Derived.Test.YtbcjbembhajgcaaDoorZLnf
import Derived.Test.YtbcjbembhajgcaaDoorZMg
import Derived.Deep.RegionHeld3
namespace Go.Proofs.YtbcjbembhajgcaaDoor.Lnm
open Go.RowKit Go.Proofs Go.Proofs.YtbcjbembhajgcaaDoor.Byt Go.Proofs.YtbcjbembhajgcaaDoor.Str3 Go.Proofs.YtbcjbembhajgcaaDoor.Dec

end Go.Proofs.YtbcjbembhajgcaaDoor.Lnm

namespace Go.Proofs.YtbcjbembhajgcaaDoor.Lnm
open Go.RowKit Go.Proofs Go.Proofs.YtbcjbembhajgcaaDoor.Byt Go.Proofs.YtbcjbembhajgcaaDoor.Str3 Go.Proofs.YtbcjbembhajgcaaDoor.Dec

/-- Few names, none of them too long. -/
def few (ns : List ByteArray) : Bool := decide (ns.length ≤ 40) && ns.all fun s => decide (s.size ≤ 300)
end Go.Proofs.YtbcjbembhajgcaaDoor.Lnm

namespace Go.Proofs.YtbcjbembhajgcaaDoor.Lnm
open Go.RowKit Go.Proofs Go.Proofs.YtbcjbembhajgcaaDoor.Byt Go.Proofs.YtbcjbembhajgcaaDoor.Str3 Go.Proofs.YtbcjbembhajgcaaDoor.Dec

end Go.Proofs.YtbcjbembhajgcaaDoor.Lnm

namespace Go.Proofs.YtbcjbembhajgcaaDoor.Lnm
open Go.RowKit Go.Proofs Go.Proofs.YtbcjbembhajgcaaDoor.Byt Go.Proofs.YtbcjbembhajgcaaDoor.Str3 Go.Proofs.YtbcjbembhajgcaaDoor.Dec

end Go.Proofs.YtbcjbembhajgcaaDoor.Lnm

namespace Go.Proofs.YtbcjbembhajgcaaDoor.Arp
open Go.RowKit Go.Proofs Go.Proofs.YtbcjbembhajgcaaDoor.Byt Go.Proofs.YtbcjbembhajgcaaDoor.Dec Go.Proofs.YtbcjbembhajgcaaDoor.Lnm

/-- A slice of ints that reads as a list of integers. -/
def RdI (w : World) (K : Nat) (A : Option Addr) (n : Nat) (xs : List Int) : Prop :=
  xs.length = n ∧ ∀ k (h : k < xs.length), ∃ b o : Nat, A = some ⟨b, o, none⟩ ∧ b < K ∧ w.cell? ⟨b, o + k, none⟩ = some (.int .i64 xs[k])
theorem RdI.below {w w' : World} {K n : Nat} {A : Option Addr} {xs : List Int} (h : RdI w K A n xs) (hb : Below K w w') : RdI w' K A n xs :=
  ⟨h.1, fun k hk => by
    obtain ⟨b, o, e, hl, hc⟩ := h.2 k hk
    exact ⟨b, o, e, hl, by rw [hb.cell (p := ⟨b, o + k, none⟩) hl]; exact hc⟩⟩
theorem RdI.more {w : World} {K K' n : Nat} {A : Option Addr} {xs : List Int} (h : RdI w K A n xs) (hK : K ≤ K') : RdI w K' A n xs :=
  ⟨h.1, fun k hk => by
    obtain ⟨b, o, e, hl, hc⟩ := h.2 k hk
    exact ⟨b, o, e, by omega, hc⟩⟩
theorem RdI.nil (w : World) (K : Nat) (A : Option Addr) : RdI w K A 0 [] := ⟨rfl, fun k hk => absurd hk (by simp)⟩
/-- As cells. -/
theorem RdI.cells {w : World} {K n : Nat} {A : Option Addr} {xs : List Int} : RdI w K A n xs ↔ Cel.Rd w K A n 1 (xs.map (Value.int .i64)) := by
  constructor
  · rintro ⟨h, g⟩
    refine ⟨by rw [List.length_map, h, Nat.mul_one], fun k hk => ?_⟩
    obtain ⟨b, o, e, hl, hc⟩ := g k (by rw [List.length_map] at hk; exact hk)
    exact ⟨b, o, e, hl, by rw [hc, List.getElem_map]⟩
  · rintro ⟨h, g⟩
    refine ⟨by rw [List.length_map, Nat.mul_one] at h; exact h, fun k hk => ?_⟩
    obtain ⟨b, o, e, hl, hc⟩ := g k (by rw [List.length_map]; exact hk)
    exact ⟨b, o, e, hl, by rw [hc, List.getElem_map]⟩

end Go.Proofs.YtbcjbembhajgcaaDoor.Arp

namespace Go.Proofs.YtbcjbembhajgcaaDoor.Arp
open Go.RowKit Go.Proofs Go.Proofs.YtbcjbembhajgcaaDoor.Byt Go.Proofs.YtbcjbembhajgcaaDoor.Dec Go.Proofs.YtbcjbembhajgcaaDoor.Lnm

end Go.Proofs.YtbcjbembhajgcaaDoor.Arp

namespace Go.Proofs.YtbcjbembhajgcaaDoor.Arp
open Go.RowKit Go.Proofs Go.Proofs.YtbcjbembhajgcaaDoor.Byt Go.Proofs.YtbcjbembhajgcaaDoor.Dec Go.Proofs.YtbcjbembhajgcaaDoor.Lnm

end Go.Proofs.YtbcjbembhajgcaaDoor.Arp

namespace Go.Proofs.YtbcjbembhajgcaaDoor.Arp
open Go.RowKit Go.Proofs Go.Proofs.YtbcjbembhajgcaaDoor.Byt Go.Proofs.YtbcjbembhajgcaaDoor.Dec Go.Proofs.YtbcjbembhajgcaaDoor.Lnm

end Go.Proofs.YtbcjbembhajgcaaDoor.Arp

namespace Go.Proofs.YtbcjbembhajgcaaDoor.Arp
open Go.RowKit Go.Proofs Go.Proofs.YtbcjbembhajgcaaDoor.Byt Go.Proofs.YtbcjbembhajgcaaDoor.Dec Go.Proofs.YtbcjbembhajgcaaDoor.Lnm

end Go.Proofs.YtbcjbembhajgcaaDoor.Arp
