/-
  arparse: the collector in memory; addMap, addTable. arparse: what the parsing turns; addMember. arparse: add. arparse: Is.
-/
import Derived.Test.YtijggpahijhpeaaZMk
import Derived.Test.YtijggpahijhpeaaZLnf
import Derived.Test.YtijggpahijhpeaaZP4o
import Derived.Test.YtijggpahijhpeaaZMg
import Derived.Deep.AppendLies
namespace Go.Proofs.Ytijggpahijhpeaa.Arp
open Go.RowKit Go.Proofs Go.Proofs.Ytijggpahijhpeaa.Byt Go.Proofs.Ytijggpahijhpeaa.Dec Go.Proofs.Ytijggpahijhpeaa.Lnm Go.Proofs.Ytijggpahijhpeaa.Hdr

/-- All but block B stays. -/
structure But (B : Nat) (W W' : World) : Prop where
  os : W'.os = W.os
  tape : W'.tape = W.tape
  output : W'.output = W.output
  size : W.heap.size ≤ W'.heap.size
  block : ∀ g, g < W.heap.size → g ≠ B → W'.heap[g]? = W.heap[g]?
theorem But.refl (B : Nat) (W : World) : But B W W := ⟨rfl, rfl, rfl, Nat.le_refl _, fun _ _ _ => rfl⟩
theorem But.trans {B : Nat} {a b c : World} (h : But B a b) (k : But B b c) : But B a c :=
  ⟨k.os.trans h.os, k.tape.trans h.tape, k.output.trans h.output, Nat.le_trans h.size k.size, fun g hg hn => (k.block g (Nat.lt_of_lt_of_le hg h.size) hn).trans (h.block g hg hn)⟩
theorem But.below {B : Nat} {W W' : World} (h : Below W.heap.size W W') : But B W W' := ⟨h.os, h.tape, h.output, h.size, fun g hg _ => h.block g hg⟩
theorem But.set {B : Nat} (W : World) (i : Nat) (v : Value) : But B W (W.setCell ⟨B, i, none⟩ v) :=
  have h := (Below.refl B W).setCell (p := ⟨B, i, none⟩) (Nat.le_refl _) v
  ⟨h.os, h.tape, h.output, h.size, fun g _ hn => Below.heap_setCell W ⟨B, i, none⟩ v g hn⟩
theorem But.to {B K : Nat} {W W' : World} (h : But B W W') (hK : K ≤ B) (hs : K ≤ W.heap.size) : Below K W W' := ⟨h.os, h.tape, h.output, h.size, fun g hg => h.block g (by omega) (by omega)⟩

theorem bclone_any (K : Nat) (a : Addr) (n c : Nat) (l : List UInt8) (w : World) (hr : Rd w K (some a) n l) (hn : n ≤ 140737488355328) :
    Calls Try.prog 38 #[.slice (some a) n c] w fun e w' => ∃ D k, e = .returned (.slice D n k) ∧ Byt.Own w' w.heap.size (.slice D n k) n l ∧ Below w.heap.size w w' := by
  refine (Try.bytes_Clone_at a n c (nums l) w (by rw [nums_length]; exact hr.1) hn fun i hi => ?_).mono fun e w' ⟨v, he, ho, _, hb⟩ => ?_
  · have hi' : i < l.length := by have := hr.1; omega
    obtain ⟨b, o, e, _, hc⟩ := hr.2 i hi'
    injection e with e
    subst e
    have ha : (⟨b, o, none⟩ : Addr).add i = ⟨b, o + i, none⟩ := by unfold Addr.add; split <;> simp_all
    rw [ha, hc, nums_at hi']
  · have ho' : Byt.Own w' w.heap.size v n l := by
      refine Byt.Own.of_row ?_
      rw [show enc l = (nums l).map (Value.int .u8) from by simp [enc, nums]]
      exact ho
    obtain ⟨D, k, e1, _⟩ := ho'.reads
    exact ⟨D, k, by rw [he, e1], by rw [← e1]; exact ho', hb⟩

end Go.Proofs.Ytijggpahijhpeaa.Arp

namespace Go.Proofs.Ytijggpahijhpeaa.Arp
open Go.RowKit Go.Proofs Go.Proofs.Ytijggpahijhpeaa.Byt Go.Proofs.Ytijggpahijhpeaa.Dec Go.Proofs.Ytijggpahijhpeaa.Lnm Go.Proofs.Ytijggpahijhpeaa.Hdr
open Go.Proofs.Ytijggpahijhpeaa.Sls (Oth Fr)

/-- What the parsing turns: the collector at B; rows of members and of ints that were made behind K1. -/
structure Ch (K1 B : Nat) (W W' : World) : Prop where
  os : W'.os = W.os
  tape : W'.tape = W.tape
  output : W'.output = W.output
  size : W.heap.size ≤ W'.heap.size
  keep : ∀ (g : Nat) (o : Obj), W.heap[g]? = some o → g ≠ B → (g < K1 ∨ ((∀ cs m, o ≠ Obj.cells cs 25 m) ∧ (∀ cs m, o ≠ Obj.cells cs 3 m))) → W'.heap[g]? = some o
theorem Ch.refl (K1 B : Nat) (W : World) : Ch K1 B W W := ⟨rfl, rfl, rfl, Nat.le_refl _, fun _ _ h _ _ => h⟩
theorem Ch.trans {K1 B : Nat} {a b c : World} (h : Ch K1 B a b) (k : Ch K1 B b c) : Ch K1 B a c :=
  ⟨k.os.trans h.os, k.tape.trans h.tape, k.output.trans h.output, Nat.le_trans h.size k.size, fun g o ho hn hp => k.keep g o (h.keep g o ho hn hp) hn hp⟩
theorem Ch.but {K1 B : Nat} {W W' : World} (h : But B W W') : Ch K1 B W W' :=
  ⟨h.os, h.tape, h.output, h.size, fun g _ ho hn _ => (h.block g (Array.getElem?_eq_some_iff.1 ho).1 hn).trans ho⟩
theorem Ch.below {K1 B : Nat} {W W' : World} (h : Below W.heap.size W W') : Ch K1 B W W' := Ch.but (But.below h)
theorem Ch.to {K1 B K : Nat} {W W' : World} (h : Ch K1 B W W') (h1 : K ≤ K1) (h2 : K ≤ B) (h3 : K ≤ W.heap.size) : Below K W W' :=
  ⟨h.os, h.tape, h.output, h.size, fun g hg => by
    have hlt : g < W.heap.size := by omega
    rw [Array.getElem?_eq_getElem hlt]
    exact h.keep g _ (Array.getElem?_eq_getElem hlt) (by omega) (.inl (by omega))⟩
theorem Ch.row {K1 B : Nat} {W W' : World} (h : Ch K1 B W W') {g : Nat} {cs : Array Value} {t : TypeId} {m : Nat × Nat} (hg : W.heap[g]? = some (.cells cs t m)) (hn : g ≠ B) (h1 : t ≠ 25) (h2 : t ≠ 3) : W'.heap[g]? = some (.cells cs t m) :=
  h.keep g _ hg hn (.inr ⟨fun _ _ e => by injection e with _ e; exact h1 e, fun _ _ e => by injection e with _ e; exact h2 e⟩)
theorem own_ch {K1 B : Nat} {W W' : World} {v : Value} {n : Nat} {l : List UInt8} (h : Byt.Own W K1 v n l) (hc : Ch K1 B W W') (hB : B < K1) : Byt.Own W' K1 v n l := by
  refine ⟨h.1, ?_⟩
  rcases h.2 with h | ⟨g, cap, cur, m, hv, hgk, hh, r⟩
  · exact .inl h
  · exact .inr ⟨g, cap, cur, m, hv, hgk, hc.row hh (by omega) (by decide) (by decide), r⟩
theorem cown_but {K1 B : Nat} {W W' : World} {t : TypeId} {sz : Nat} {v : Value} {n : Nat} {l : List Value} (h : Cel.Own t sz W K1 v n l) (hc : But B W W') (hB : B < K1) : Cel.Own t sz W' K1 v n l :=
  h.keep fun g hg hlt => hc.block g hlt (by omega)
theorem OwnM.ch {K1 B : Nat} {W W' : World} {xs : List Mem} (h : OwnM W K1 xs) (hc : Ch K1 B W W') (hB : B < K1) : OwnM W' K1 xs := fun x hx => own_ch (h x hx) hc hB
theorem OwnA.but {K1 B : Nat} {W W' : World} {x : Arc} (h : OwnA W K1 x) (hc : But B W W') (hB : B < K1) : OwnA W' K1 x :=
  ⟨own_ch h.map (Ch.but hc) hB, cown_but h.mems hc hB, h.data.ch (Ch.but hc) hB, cown_but h.offs hc hB, h.small⟩

/-- A member in memory. -/
def mem1 (nm : ByteArray) (t u g m : Int) (D : Option Addr) (n k : Nat) (d : List UInt8) : Mem := ⟨nm, t, u, g, m, D, n, k, d⟩

end Go.Proofs.Ytijggpahijhpeaa.Arp

namespace Go.Proofs.Ytijggpahijhpeaa.Arp
open Go.RowKit Go.Proofs Go.Proofs.Ytijggpahijhpeaa.Byt Go.Proofs.Ytijggpahijhpeaa.Dec Go.Proofs.Ytijggpahijhpeaa.Lnm Go.Proofs.Ytijggpahijhpeaa.Hdr

end Go.Proofs.Ytijggpahijhpeaa.Arp

namespace Go.Proofs.Ytijggpahijhpeaa.Arp
open Go.RowKit Go.Proofs Go.Proofs.Ytijggpahijhpeaa.Byt Go.Proofs.Ytijggpahijhpeaa.Dec Go.Proofs.Ytijggpahijhpeaa.Lnm

end Go.Proofs.Ytijggpahijhpeaa.Arp
