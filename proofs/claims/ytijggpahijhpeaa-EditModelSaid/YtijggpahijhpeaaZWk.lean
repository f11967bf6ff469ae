/-
  arwrite: Write.
  arwrite's reference: part.
  arwrite's reference: Write.
  arwrite: the laws' awake.
-/
import Derived.Test.YtijggpahijhpeaaZWf
import Derived.Test.YtijggpahijhpeaaZWa
namespace Go.Proofs.Ytijggpahijhpeaa.Arw
open Go.RowKit Go.Proofs Go.Proofs.Ytijggpahijhpeaa.Byt Go.Proofs.Ytijggpahijhpeaa.Dec Go.Proofs.Ytijggpahijhpeaa.Lnm Go.Proofs.Ytijggpahijhpeaa.Hdr Go.Proofs.Ytijggpahijhpeaa.Arp
open Go.Proofs.Ytijggpahijhpeaa.Sls (Fr blk)

end Go.Proofs.Ytijggpahijhpeaa.Arw

namespace Go.Proofs.Ytijggpahijhpeaa.Arw
open Go.RowKit Go.Proofs Go.Proofs.Ytijggpahijhpeaa.Byt Go.Proofs.Ytijggpahijhpeaa.Dec Go.Proofs.Ytijggpahijhpeaa.Lnm Go.Proofs.Ytijggpahijhpeaa.Hdr Go.Proofs.Ytijggpahijhpeaa.Arp
open Go.Proofs.Ytijggpahijhpeaa.Sls (Fr blk)

end Go.Proofs.Ytijggpahijhpeaa.Arw

namespace Go.Proofs.Ytijggpahijhpeaa.Arw
open Go.RowKit Go.Proofs Go.Proofs.Ytijggpahijhpeaa.Byt Go.Proofs.Ytijggpahijhpeaa.Dec Go.Proofs.Ytijggpahijhpeaa.Lnm Go.Proofs.Ytijggpahijhpeaa.Hdr Go.Proofs.Ytijggpahijhpeaa.Arp
open Go.Proofs.Ytijggpahijhpeaa.Sls (Fr blk Oth)

end Go.Proofs.Ytijggpahijhpeaa.Arw

namespace Go.Proofs.Ytijggpahijhpeaa.Arw
open Go.RowKit Go.Proofs Go.Proofs.Ytijggpahijhpeaa.Byt Go.Proofs.Ytijggpahijhpeaa.Dec Go.Proofs.Ytijggpahijhpeaa.Lnm Go.Proofs.Ytijggpahijhpeaa.Hdr Go.Proofs.Ytijggpahijhpeaa.Arp
open Go.Proofs.Ytijggpahijhpeaa.Sls (Fr blk Oth)

def nA : ByteArray := ⟨#[97, 46, 111]⟩
def nL : ByteArray := ⟨#[97, 45, 118, 101, 114, 121, 45, 108, 111, 110, 103, 45, 110, 97, 109, 101, 46, 111]⟩
def m1 (g : Nat) : Mem := ⟨nA, 0, 0, 0, 0, some ⟨g, 0, none⟩, 1, 1, [120]⟩
def m2 : Mem := ⟨nL, 0, 0, 0, 0, none, 0, 0, []⟩
/-- Members in a row of their own. -/
theorem rdM_row {w : World} {b K : Nat} {xs : List Mem} {cs : Array Value} {m : Nat × Nat} (h : w.heap[b]? = some (.cells cs 25 m)) (hc : cs.toList = mcells xs) (hb : b < K) (hd : ∀ x ∈ xs, Byt.Rd w K x.ptr x.len x.data ∧ x.len ≤ 140737488355328) : RdM w K (some ⟨b, 0, none⟩) xs.length xs := by
  refine ⟨rfl, fun k hk => ⟨⟨b, 0, rfl, hb, ?_⟩, hd _ (List.getElem_mem hk)⟩⟩
  obtain ⟨q0, q1, q2, q3, q4, q5⟩ := mcells_at xs k hk
  rw [← hc] at q0 q1 q2 q3 q4 q5
  have e : ∀ j v, cs.toList[j]? = some v → w.cell? ⟨b, j, none⟩ = some v := fun j v hv => by
    rw [cell_of_row w b j cs _ m h, ← Array.getElem?_toList]
    exact hv
  unfold MCells
  rw [Nat.zero_add]
  exact ⟨e _ _ q0, e _ _ q1, e _ _ q2, e _ _ q3, e _ _ q4, e _ _ q5⟩

end Go.Proofs.Ytijggpahijhpeaa.Arw
