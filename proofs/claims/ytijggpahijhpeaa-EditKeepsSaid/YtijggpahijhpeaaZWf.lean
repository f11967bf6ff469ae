/-
  arwrite: the archive that is written, and why its parts fit (mathematics).
  Append onto byte slices with what stays: all blocks but the slice's own; what a writer's step leaves as it is.
  arwrite: the writer's add.
  arwrite: eachPart with the writer's add.
  arwrite: parts.
-/
import Derived.Test.YtijggpahijhpeaaZWa
import Derived.Test.YtijggpahijhpeaaZOa
import Derived.Test.YtijggpahijhpeaaZP4z
namespace Go.Proofs.Ytijggpahijhpeaa.Arw
open Go.RowKit Go.Proofs Go.Proofs.Ytijggpahijhpeaa.Byt Go.Proofs.Ytijggpahijhpeaa.Dec Go.Proofs.Ytijggpahijhpeaa.Lnm Go.Proofs.Ytijggpahijhpeaa.Hdr Go.Proofs.Ytijggpahijhpeaa.Arp

end Go.Proofs.Ytijggpahijhpeaa.Arw

namespace Go.Proofs.Ytijggpahijhpeaa.Byt
open Go.RowKit Go.Proofs
open Go.Proofs.Ytijggpahijhpeaa.Sls (Fr Fr.ahead blk)

theorem kB : Cel.Kind 23 5 1 1 (.int .u8 0) := ⟨by kernel_rfl, by kernel_rfl, by kernel_rfl, by decide⟩
theorem Own.cel {w : World} {K n : Nat} {v : Value} {l : List UInt8} : Own w K v n l ↔ Cel.Own 5 1 w K v n (enc l) := by
  unfold Own Cel.Own
  simp only [Nat.mul_one, enc_length]
theorem Rd.cel {w : World} {K n : Nat} {A : Option Addr} {xs : List UInt8} (h : Rd w K A n xs) : Cel.Rd w K A n 1 (enc xs) :=
  ⟨by rw [enc_length, Nat.mul_one]; exact h.1, fun k hk => by
    rw [enc_length] at hk
    obtain ⟨b, o, e, hl, hc⟩ := h.2 k hk
    exact ⟨b, o, e, hl, by rw [hc]; simp [enc]⟩⟩

end Go.Proofs.Ytijggpahijhpeaa.Byt

namespace Go.Proofs.Ytijggpahijhpeaa.Arw
open Go.RowKit Go.Proofs Go.Proofs.Ytijggpahijhpeaa.Byt Go.Proofs.Ytijggpahijhpeaa.Dec Go.Proofs.Ytijggpahijhpeaa.Lnm Go.Proofs.Ytijggpahijhpeaa.Hdr Go.Proofs.Ytijggpahijhpeaa.Arp
open Go.Proofs.Ytijggpahijhpeaa.Sls (Fr blk)

/-- What a writer's step leaves: all blocks below K, and all but the writer's cell B and the slice's own block. -/
structure Fw (K B : Nat) (v : Value) (W : World) (v' : Value) (W' : World) : Prop where
  below : Below K W W'
  size : W.heap.size ≤ W'.heap.size
  keep : ∀ k, k < W.heap.size → k ≠ B → blk v ≠ some k → W'.heap[k]? = W.heap[k]?
  tgt : ∀ k, blk v' = some k → blk v = some k ∨ W.heap.size ≤ k
theorem Fw.refl (K B : Nat) (v : Value) (W : World) : Fw K B v W v W := ⟨Below.refl _ _, Nat.le_refl _, fun _ _ _ _ => rfl, fun _ h => .inl h⟩
theorem Fw.trans {K B : Nat} {v v' v'' : Value} {W W' W'' : World} (h : Fw K B v W v' W') (k : Fw K B v' W' v'' W'') : Fw K B v W v'' W'' :=
  ⟨h.below.trans k.below, Nat.le_trans h.size k.size, fun j hj hB hv => by
    have := h.size
    rw [k.keep j (by omega) hB (fun e => by rcases h.tgt j e with q | q; exact hv q; omega)]
    exact h.keep j hj hB hv, fun j hj => by
    rcases k.tgt j hj with q | q
    · exact h.tgt j q
    · have := h.size; exact .inr (by omega)⟩
theorem cell_eq {W W' : World} {b o : Nat} (h : W'.heap[b]? = W.heap[b]?) : W'.cell? ⟨b, o, none⟩ = W.cell? ⟨b, o, none⟩ := by
  unfold World.cell?
  simp only [h]
theorem Fw.set {K B : Nat} {v v' : Value} {W : World} (hK : K ≤ B) (hv : ∀ k, blk v' = some k → blk v = some k ∨ W.heap.size ≤ k) (y : Value) : Fw K B v W v' (W.setCell ⟨B, 0, none⟩ y) :=
  ⟨(Below.refl K W).setCell (p := ⟨B, 0, none⟩) hK y, by have := ((Below.refl 0 W).setCell (p := ⟨B, 0, none⟩) (Nat.zero_le _) y).size; exact this, fun k _ hk _ => Below.heap_setCell W ⟨B, 0, none⟩ y k hk, hv⟩
theorem Fw.row {K B : Nat} {v v' : Value} {W W' : World} (h : Fw K B v W v' W') {g : Nat} {o : Obj} (hg : W.heap[g]? = some o) (h1 : g ≠ B) (h2 : blk v ≠ some g) : W'.heap[g]? = some o :=
  (h.keep g (Array.getElem?_eq_some_iff.1 hg).1 h1 h2).trans hg
end Go.Proofs.Ytijggpahijhpeaa.Arw

namespace Go.Proofs.Ytijggpahijhpeaa.Arw
open Go.RowKit Go.Proofs Go.Proofs.Ytijggpahijhpeaa.Byt Go.Proofs.Ytijggpahijhpeaa.Dec Go.Proofs.Ytijggpahijhpeaa.Lnm Go.Proofs.Ytijggpahijhpeaa.Hdr Go.Proofs.Ytijggpahijhpeaa.Arp
open Go.Proofs.Ytijggpahijhpeaa.Sls (Fr blk)

end Go.Proofs.Ytijggpahijhpeaa.Arw

namespace Go.Proofs.Ytijggpahijhpeaa.Arw
open Go.RowKit Go.Proofs Go.Proofs.Ytijggpahijhpeaa.Byt Go.Proofs.Ytijggpahijhpeaa.Dec Go.Proofs.Ytijggpahijhpeaa.Lnm Go.Proofs.Ytijggpahijhpeaa.Hdr Go.Proofs.Ytijggpahijhpeaa.Arp
open Go.Proofs.Ytijggpahijhpeaa.Sls (Fr blk)

/-- The seven cells of a part. -/
def PCells (w : World) (b o : Nat) (x : Mem) : Prop :=
  w.cell? ⟨b, o, none⟩ = some (.string x.name) ∧ w.cell? ⟨b, o + 1, none⟩ = some (.int .i64 x.time) ∧ w.cell? ⟨b, o + 2, none⟩ = some (.int .i64 x.uid) ∧ w.cell? ⟨b, o + 3, none⟩ = some (.int .i64 x.gid) ∧ w.cell? ⟨b, o + 4, none⟩ = some (.int .i64 x.mode) ∧ w.cell? ⟨b, o + 5, none⟩ = some (.int .i64 (x.len : Int)) ∧ w.cell? ⟨b, o + 6, none⟩ = some (.slice x.ptr x.len x.cap)
theorem PCells.eq {w w' : World} {b o : Nat} {x : Mem} (h : PCells w b o x) (hb : w'.heap[b]? = w.heap[b]?) : PCells w' b o x := by
  unfold PCells
  simp only [cell_eq hb]
  exact h
end Go.Proofs.Ytijggpahijhpeaa.Arw

namespace Go.Proofs.Ytijggpahijhpeaa.Arw
open Go.RowKit Go.Proofs Go.Proofs.Ytijggpahijhpeaa.Byt Go.Proofs.Ytijggpahijhpeaa.Dec Go.Proofs.Ytijggpahijhpeaa.Lnm Go.Proofs.Ytijggpahijhpeaa.Hdr Go.Proofs.Ytijggpahijhpeaa.Arp
open Go.Proofs.Ytijggpahijhpeaa.Sls (Fr blk Oth)

theorem bown_oth {t : TypeId} {w w' : World} {K n : Nat} {v : Value} {l : List UInt8} (h : Byt.Own w K v n l) (ho : Oth t w w') (ht : 5 ≠ t) : Byt.Own w' K v n l :=
  Own.cel.2 ((Own.cel.1 h).oth ho ht)

end Go.Proofs.Ytijggpahijhpeaa.Arw
