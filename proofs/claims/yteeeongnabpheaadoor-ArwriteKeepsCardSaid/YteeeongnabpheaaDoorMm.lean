/-
  arparse: the collector in memory; addMap, addTable.
  arparse: what the parsing turns; addMember.
  arparse: add.
  arparse: Is.
-/
import Derived.Test.YteeeongnabpheaaDoorMk
import Derived.Test.YteeeongnabpheaaDoorLnf
import Derived.Test.YteeeongnabpheaaDoorP4o
import Derived.Test.YteeeongnabpheaaDoorMg
import Derived.Deep.AppendLies
namespace Go.Proofs.YteeeongnabpheaaDoor.Arp
open Go.RowKit Go.Proofs Go.Proofs.YteeeongnabpheaaDoor.Byt Go.Proofs.YteeeongnabpheaaDoor.Dec Go.Proofs.YteeeongnabpheaaDoor.Lnm Go.Proofs.YteeeongnabpheaaDoor.Hdr

/-- All but block B stays. -/
structure But (B : Nat) (W W' : World) : Prop where
  os : W'.os = W.os
  tape : W'.tape = W.tape
  output : W'.output = W.output
  size : W.heap.size ≤ W'.heap.size
  block : ∀ g, g < W.heap.size → g ≠ B → W'.heap[g]? = W.heap[g]?
theorem But.refl (B : Nat) (W : World) : But B W W := ⟨rfl, rfl, rfl, Nat.le_refl _, fun _ _ _ => rfl⟩
theorem But.trans {B : Nat} {a b c : World} (h : But B a b) (k : But B b c) : But B a c :=
  ⟨k.os.trans h.os, k.tape.trans h.tape, k.output.trans h.output, Nat.le_trans h.size k.size, fun g hg hn => (k.block g (Nat.lt_of_lt_of_le hg h.size) hn).trans (h.block g hg hn)⟩
theorem But.below {B : Nat} {W W' : World} (h : Below W.heap.size W W') : But B W W' := ⟨h.os, h.tape, h.output, h.size, fun g hg _ => h.block g hg⟩
theorem But.set {B : Nat} (W : World) (i : Nat) (v : Value) : But B W (W.setCell ⟨B, i, none⟩ v) :=
  have h := (Below.refl B W).setCell (p := ⟨B, i, none⟩) (Nat.le_refl _) v
  ⟨h.os, h.tape, h.output, h.size, fun g _ hn => Below.heap_setCell W ⟨B, i, none⟩ v g hn⟩
theorem But.to {B K : Nat} {W W' : World} (h : But B W W') (hK : K ≤ B) (hs : K ≤ W.heap.size) : Below K W W' := ⟨h.os, h.tape, h.output, h.size, fun g hg => h.block g (by omega) (by omega)⟩

end Go.Proofs.YteeeongnabpheaaDoor.Arp

namespace Go.Proofs.YteeeongnabpheaaDoor.Arp
open Go.RowKit Go.Proofs Go.Proofs.YteeeongnabpheaaDoor.Byt Go.Proofs.YteeeongnabpheaaDoor.Dec Go.Proofs.YteeeongnabpheaaDoor.Lnm Go.Proofs.YteeeongnabpheaaDoor.Hdr
open Go.Proofs.YteeeongnabpheaaDoor.Sls (Oth Fr)

/-- What the parsing turns: the collector at B; rows of members and of ints that were made behind K1. -/
structure Ch (K1 B : Nat) (W W' : World) : Prop where
  os : W'.os = W.os
  tape : W'.tape = W.tape
  output : W'.output = W.output
  size : W.heap.size ≤ W'.heap.size
  keep : ∀ (g : Nat) (o : Obj), W.heap[g]? = some o → g ≠ B → (g < K1 ∨ ((∀ cs m, o ≠ Obj.cells cs 45 m) ∧ (∀ cs m, o ≠ Obj.cells cs 3 m))) → W'.heap[g]? = some o
theorem Ch.refl (K1 B : Nat) (W : World) : Ch K1 B W W := ⟨rfl, rfl, rfl, Nat.le_refl _, fun _ _ h _ _ => h⟩
theorem Ch.trans {K1 B : Nat} {a b c : World} (h : Ch K1 B a b) (k : Ch K1 B b c) : Ch K1 B a c :=
  ⟨k.os.trans h.os, k.tape.trans h.tape, k.output.trans h.output, Nat.le_trans h.size k.size, fun g o ho hn hp => k.keep g o (h.keep g o ho hn hp) hn hp⟩
theorem Ch.but {K1 B : Nat} {W W' : World} (h : But B W W') : Ch K1 B W W' :=
  ⟨h.os, h.tape, h.output, h.size, fun g _ ho hn _ => (h.block g (Array.getElem?_eq_some_iff.1 ho).1 hn).trans ho⟩
theorem Ch.below {K1 B : Nat} {W W' : World} (h : Below W.heap.size W W') : Ch K1 B W W' := Ch.but (But.below h)
theorem Ch.push {K1 B : Nat} {W W' : World} {t : TypeId} (hb : Below K1 W W') (ho : Oth t W W') (ht : t = 45 ∨ t = 3) : Ch K1 B W W' := by
  refine ⟨hb.os, hb.tape, hb.output, hb.size, fun g o h _ hp => ?_⟩
  rcases hp with hp | ⟨h1, h2⟩
  · exact (hb.block g hp).trans h
  · rcases ht with rfl | rfl
    · exact ho g o h h1
    · exact ho g o h h2
theorem Ch.to {K1 B K : Nat} {W W' : World} (h : Ch K1 B W W') (h1 : K ≤ K1) (h2 : K ≤ B) (h3 : K ≤ W.heap.size) : Below K W W' :=
  ⟨h.os, h.tape, h.output, h.size, fun g hg => by
    have hlt : g < W.heap.size := by omega
    rw [Array.getElem?_eq_getElem hlt]
    exact h.keep g _ (Array.getElem?_eq_getElem hlt) (by omega) (.inl (by omega))⟩
theorem Ch.row {K1 B : Nat} {W W' : World} (h : Ch K1 B W W') {g : Nat} {cs : Array Value} {t : TypeId} {m : Nat × Nat} (hg : W.heap[g]? = some (.cells cs t m)) (hn : g ≠ B) (h1 : t ≠ 45) (h2 : t ≠ 3) : W'.heap[g]? = some (.cells cs t m) :=
  h.keep g _ hg hn (.inr ⟨fun _ _ e => by injection e with _ e; exact h1 e, fun _ _ e => by injection e with _ e; exact h2 e⟩)
theorem own_ch {K1 B : Nat} {W W' : World} {v : Value} {n : Nat} {l : List UInt8} (h : Byt.Own W K1 v n l) (hc : Ch K1 B W W') (hB : B < K1) : Byt.Own W' K1 v n l := by
  refine ⟨h.1, ?_⟩
  rcases h.2 with h | ⟨g, cap, cur, m, hv, hgk, hh, r⟩
  · exact .inl h
  · exact .inr ⟨g, cap, cur, m, hv, hgk, hc.row hh (by omega) (by decide) (by decide), r⟩
theorem cown_but {K1 B : Nat} {W W' : World} {t : TypeId} {sz : Nat} {v : Value} {n : Nat} {l : List Value} (h : Cel.Own t sz W K1 v n l) (hc : But B W W') (hB : B < K1) : Cel.Own t sz W' K1 v n l :=
  h.keep fun g hg hlt => hc.block g hlt (by omega)
theorem OwnM.ch {K1 B : Nat} {W W' : World} {xs : List Mem} (h : OwnM W K1 xs) (hc : Ch K1 B W W') (hB : B < K1) : OwnM W' K1 xs := fun x hx => own_ch (h x hx) hc hB
theorem OwnA.but {K1 B : Nat} {W W' : World} {x : Arc} (h : OwnA W K1 x) (hc : But B W W') (hB : B < K1) : OwnA W' K1 x :=
  ⟨own_ch h.map (Ch.but hc) hB, cown_but h.mems hc hB, h.data.ch (Ch.but hc) hB, cown_but h.offs hc hB, h.small⟩

/-- A part by value that is a member's. -/
def partM (nm : ByteArray) (t u g m : Int) (z : Nat) (a : Addr) (n c : Nat) : Value := .agg #[.string nm, .int .i64 t, .int .i64 u, .int .i64 g, .int .i64 m, .int .i64 (z : Int), .slice (some a) n c, .int .i64 0]

/-- A member in memory. -/
def mem1 (nm : ByteArray) (t u g m : Int) (D : Option Addr) (n k : Nat) (d : List UInt8) : Mem := ⟨nm, t, u, g, m, D, n, k, d⟩

end Go.Proofs.YteeeongnabpheaaDoor.Arp

namespace Go.Proofs.YteeeongnabpheaaDoor.Arp
open Go.RowKit Go.Proofs Go.Proofs.YteeeongnabpheaaDoor.Byt Go.Proofs.YteeeongnabpheaaDoor.Dec Go.Proofs.YteeeongnabpheaaDoor.Lnm Go.Proofs.YteeeongnabpheaaDoor.Hdr

theorem OwnA.lens {W : World} {K1 : Nat} {x : Arc} (h : OwnA W K1 x) : x.mems.length = x.an ∧ x.offs.length = x.on := by
  have h1 := h.mems.1
  have h2 := h.offs.1
  rw [mcells_length] at h1
  rw [List.length_map] at h2
  exact ⟨by omega, by omega⟩
theorem name_is (s : ByteArray) (l : List UInt8) (t : ByteArray) (ht : t.toList = l) : (s.toList == l) = decide (s = t) := by
  by_cases h : s = t
  · subst h
    rw [ht]
    simp
  · have : ¬ s.toList = l := by
      intro e
      apply h
      rw [← ht] at e
      rw [Lib.toList_data, Lib.toList_data] at e
      cases s; cases t
      simp at e
      rw [e]
    simp [h, this]
theorem map_list : nmMap.toList = [47] := by decide +kernel
theorem tab_list : nmTab.toList = [47, 47] := by decide +kernel

theorem stepE_map {s : St} {r : List UInt8} (hp : perr r = 0) (hn : dname r = nmMap) : stepE s r = if s.cnt = 0 then 0 else 8 := by
  unfold stepE; rw [if_neg (by simp [hp]), if_pos hn]
theorem nmMap_ne : ¬ nmTab = nmMap := by decide
theorem stepE_tab {s : St} {r : List UInt8} (hp : perr r = 0) (hn : dname r = nmTab) : stepE s r = if s.mayTab = true ∧ good (pdata r) = true then 0 else 7 := by
  unfold stepE; rw [if_neg (by simp [hp]), if_neg (by rw [hn]; exact nmMap_ne), if_pos hn]
theorem stepE_mem {s : St} {r : List UInt8} (hp : perr r = 0) (h1 : dname r ≠ nmMap) (h2 : dname r ≠ nmTab) : stepE s r = re (pname s r) := by
  unfold stepE; rw [if_neg (by simp [hp]), if_neg h1, if_neg h2]

theorem data_at {W : World} {K0 b o n c : Nat} {r : List UInt8} (hr : Rd W K0 (some ⟨b, o, none⟩) n r) (hnc : n ≤ c) (hp : perr r = 0) : (∃ a, cutp (some ⟨b, o, none⟩) c 60 = some a) ∧ Rd W K0 (cutp (some ⟨b, o, none⟩) c 60) (psz r) (pdata r) ∧ psz r ≤ n ∧ psz r ≤ c - 60 := by
  obtain ⟨_, h2, _⟩ := perr_ok hp
  have hl := hr.1
  unfold plen pad at h2
  refine ⟨?_, (rd_cutp hr hnc).pre (by omega), by omega, by omega⟩
  unfold cutp
  split
  · exact ⟨_, rfl⟩
  · exact ⟨_, rfl⟩
theorem name_yes {s : ByteArray} {l : List UInt8} {t : ByteArray} (ht : t.toList = l) (h : s = t) : (s.toList == l) = true := by rw [name_is s l t ht, decide_eq_true h]
theorem name_no {s : ByteArray} {l : List UInt8} {t : ByteArray} (ht : t.toList = l) (h : s ≠ t) : (s.toList == l) = false := by rw [name_is s l t ht, decide_eq_false h]

theorem dname_size (r : List UInt8) : (dname r).size ≤ 16 := by
  unfold dname
  split
  · exact nm_size r
  · decide

end Go.Proofs.YteeeongnabpheaaDoor.Arp

namespace Go.Proofs.YteeeongnabpheaaDoor.Arp
open Go.RowKit Go.Proofs Go.Proofs.YteeeongnabpheaaDoor.Byt Go.Proofs.YteeeongnabpheaaDoor.Dec Go.Proofs.YteeeongnabpheaaDoor.Lnm

theorem isAr_prefix (l : List UInt8) : Lib.hasPrefix l magic = isAr l := by
  unfold Lib.hasPrefix isAr
  rw [Bool.eq_iff_iff, List.isPrefixOf_iff_prefix, List.prefix_iff_eq_take]
  simp only [Bool.and_eq_true, decide_eq_true_eq, beq_iff_eq]
  have hm : magic.length = 8 := rfl
  rw [hm]
  constructor
  · intro h
    refine ⟨?_, h.symm⟩
    have := congrArg List.length h
    rw [hm, List.length_take] at this
    omega
  · exact fun h => h.2.symm

end Go.Proofs.YteeeongnabpheaaDoor.Arp
