/-
  arparse: the collector in memory; addMap, addTable. arparse: what the parsing turns; addMember. arparse: add. arparse: Is.
-/
import Derived.Test.YtjobmkodgodloaaGreatDoorYMk
import Derived.Test.YtjobmkodgodloaaGreatDoorYLnf
import Derived.Test.YtjobmkodgodloaaGreatDoorYP4o
import Derived.Test.YtjobmkodgodloaaGreatDoorYMg
import Derived.Deep.AppendLies
namespace Go.Proofs.YtjobmkodgodloaaGreatDoor.Arp
open Go.RowKit Go.Proofs Go.Proofs.YtjobmkodgodloaaGreatDoor.Byt Go.Proofs.YtjobmkodgodloaaGreatDoor.Dec Go.Proofs.YtjobmkodgodloaaGreatDoor.Lnm Go.Proofs.YtjobmkodgodloaaGreatDoor.Hdr

def Col (W : World) (B : Nat) (x : Arc) (T : Option Addr) (tn tc cnt : Nat) : Prop :=
 W.heap[B]? = some (.cells #[.bool x.hasMap, .slice x.mp x.mn x.mc, .slice x.ap x.an x.ac, .slice x.op x.on x.oc, .slice T tn tc, .int .i64 (cnt : Int)] 85 (0, 0))
theorem Col.cells {W : World} {B : Nat} {x : Arc} {T : Option Addr} {tn tc cnt : Nat} (h : Col W B x T tn tc cnt) :
   W.cell? ⟨B, 0, none⟩ = some (.bool x.hasMap) ∧ W.cell? ⟨B, 1, none⟩ = some (.slice x.mp x.mn x.mc) ∧ W.cell? ⟨B, 2, none⟩ = some (.slice x.ap x.an x.ac) ∧ W.cell? ⟨B, 3, none⟩ = some (.slice x.op x.on x.oc) ∧ W.cell? ⟨B, 4, none⟩ = some (.slice T tn tc) ∧ W.cell? ⟨B, 5, none⟩ = some (.int .i64 (cnt : Int)) ∧
   (∀ o, W.frozen? ⟨B, o, none⟩ = false) ∧ B < W.heap.size := by
 refine ⟨cell_of_row W B 0 _ _ _ h, cell_of_row W B 1 _ _ _ h, cell_of_row W B 2 _ _ _ h, cell_of_row W B 3 _ _ _ h, cell_of_row W B 4 _ _ _ h, cell_of_row W B 5 _ _ _ h, fun o => ?_, (Array.getElem?_eq_some_iff.1 h).1⟩
 unfold Col at h
 simp [World.frozen?, h]

structure But (B : Nat) (W W' : World) : Prop where
 os : W'.os = W.os
 tape : W'.tape = W.tape
 output : W'.output = W.output
 size : W.heap.size ≤ W'.heap.size
 block : ∀ g, g < W.heap.size → g ≠ B → W'.heap[g]? = W.heap[g]?
theorem But.refl (B : Nat) (W : World) : But B W W := ⟨rfl, rfl, rfl, Nat.le_refl _, fun _ _ _ => rfl⟩
theorem But.trans {B : Nat} {a b c : World} (h : But B a b) (k : But B b c) : But B a c :=
 ⟨k.os.trans h.os, k.tape.trans h.tape, k.output.trans h.output, Nat.le_trans h.size k.size, fun g hg hn => (k.block g (Nat.lt_of_lt_of_le hg h.size) hn).trans (h.block g hg hn)⟩
theorem But.below {B : Nat} {W W' : World} (h : Below W.heap.size W W') : But B W W' := ⟨h.os, h.tape, h.output, h.size, fun g hg _ => h.block g hg⟩
theorem But.set {B : Nat} (W : World) (i : Nat) (v : Value) : But B W (W.setCell ⟨B, i, none⟩ v) :=
 have h := (Below.refl B W).setCell (p := ⟨B, i, none⟩) (Nat.le_refl _) v
 ⟨h.os, h.tape, h.output, h.size, fun g _ hn => Below.heap_setCell W ⟨B, i, none⟩ v g hn⟩
theorem But.to {B K : Nat} {W W' : World} (h : But B W W') (hK : K ≤ B) (hs : K ≤ W.heap.size) : Below K W W' := ⟨h.os, h.tape, h.output, h.size, fun g hg => h.block g (by omega) (by omega)⟩

theorem bclone_any (K : Nat) (a : Addr) (n c : Nat) (l : List UInt8) (w : World) (hr : Rd w K (some a) n l) (hn : n ≤ 140737488355328) :
   Calls Tryz.prog 76 #[.slice (some a) n c] w fun e w' => ∃ D k, e = .returned (.slice D n k) ∧ Byt.Own w' w.heap.size (.slice D n k) n l ∧ Below w.heap.size w w' := by
 refine (Tryz.bytes_Clone_at a n c (nums l) w (by rw [nums_length]; exact hr.1) hn fun i hi => ?_).mono fun e w' ⟨v, he, ho, _, hb⟩ => ?_
 · have hi' : i < l.length := by have := hr.1; omega
   obtain ⟨b, o, e, _, hc⟩ := hr.2 i hi'
   injection e with e
   subst e
   have ha : (⟨b, o, none⟩ : Addr).add i = ⟨b, o + i, none⟩ := by unfold Addr.add; split <;> simp_all
   rw [ha, hc, nums_at hi']
 · have ho' : Byt.Own w' w.heap.size v n l := by
     refine Byt.Own.of_row ?_
     rw [show enc l = (nums l).map (Value.int .u8) from by simp [enc, nums]]
     exact ho
   obtain ⟨D, k, e1, _⟩ := ho'.reads
   exact ⟨D, k, by rw [he, e1], by rw [← e1]; exact ho', hb⟩

set_option maxRecDepth 100000 in
set_option maxHeartbeats 1000000 in
theorem addMap_bad (W : World) (B : Nat) (x : Arc) (T : Option Addr) (tn tc cnt : Nat) (h : Col W B x T tn tc cnt) (hc : cnt ≠ 1) (v : Value) :
   Calls Tryz.prog 58 #[.pointer (some ⟨B, 0, none⟩), v] W fun e w' => e = .returned (.int .i64 8) ∧ w' = W := by
 obtain ⟨c0, c1, c2, c3, c4, c5, hf, hB⟩ := h.cells
 have hne : ((cnt : Int) != 1) = true := by rw [bne_iff_ne]; omega
 go_enter Tryz.func58, Tryz.ntmps58
 go_wp2_with fail
 go_ret
 exact ⟨rfl, rfl⟩

set_option maxRecDepth 100000 in
set_option maxHeartbeats 1000000 in
theorem addMap_ok (W : World) (B K : Nat) (x : Arc) (T : Option Addr) (tn tc : Nat) (h : Col W B x T tn tc 1) (a : Addr) (n c : Nat) (l : List UInt8) (hr : Rd W K (some a) n l) (hK : K ≤ B) (hn : n ≤ 140737488355328) :
   Calls Tryz.prog 58 #[.pointer (some ⟨B, 0, none⟩), .slice (some a) n c] W fun e w' => e = .returned (.int .i64 0) ∧
     ∃ D k, Col w' B { x with hasMap := true, mp := D, mn := n, mc := k, map := l } T tn tc 1 ∧ Byt.Own w' W.heap.size (.slice D n k) n l ∧ But B W w' := by
 have Hh := hid h
 obtain ⟨c0, c1, c2, c3, c4, c5, hf, hB⟩ := h.cells
 have Hc := hid fun v => bclone_any K a n c l (W.setCell ⟨B, 0, none⟩ v) (hr.below ((Below.refl K W).setCell (p := ⟨B, 0, none⟩) hK v)) hn
 clear h hr
 go_enter Tryz.func58, Tryz.ntmps58
 go_wp2_with fail
 refine (Hc.out _).mono ?_
 rintro e w1 ⟨D, k, rfl, ho, hb⟩
 have k2 := stays (B := B) hb (by simpa using hB)
 have f2 := staysf (B := B) hb (by simpa using hB)
 go_wp2_with fail
 go_ret
 have h1 := heap_setCell_same W B 0 _ _ (.bool true) Hh.out
 have h2 : w1.heap[B]? = _ := (hb.block B (by simpa using hB)).trans h1
 have h3 := heap_setCell_same w1 B 1 _ _ (.slice D n k) h2
 have hs : (W.setCell ⟨B, 0, none⟩ (.bool true)).heap.size = W.heap.size := by simp
 rw [hs] at ho
 refine ⟨rfl, D, k, h3, ?_, ((But.set W 0 (.bool true)).trans (But.below hb)).trans (But.set w1 1 _)⟩
 refine ho.keep fun g hg _ => Below.heap_setCell _ _ _ g ?_
 show g ≠ B
 omega

set_option maxRecDepth 100000 in
set_option maxHeartbeats 1000000 in
theorem addTable_bad (W : World) (B : Nat) (x : Arc) (T : Option Addr) (tn tc cnt : Nat) (h : Col W B x T tn tc cnt) (hc : ¬ (cnt = 1 ∨ (cnt = 2 ∧ x.hasMap = true))) (v : Value) :
   Calls Tryz.prog 59 #[.pointer (some ⟨B, 0, none⟩), v] W fun e w' => e = .returned (.int .i64 7) ∧ w' = W := by
 obtain ⟨c0, c1, c2, c3, c4, c5, hf, hB⟩ := h.cells
 have hne : ((cnt : Int) != 1) = true := by rw [bne_iff_ne]; omega
 by_cases h2 : cnt = 2
 · have hm : x.hasMap = false := by
     cases hx : x.hasMap
     · rfl
     · exact absurd (.inr ⟨h2, hx⟩) hc
   rw [hm] at c0
   have he : ((cnt : Int) == 2) = true := by simp; omega
   go_enter Tryz.func59, Tryz.ntmps59
   go_wp2_with fail
   go_ret
   exact ⟨rfl, rfl⟩
 · have he : ((cnt : Int) == 2) = false := by simp; omega
   go_enter Tryz.func59, Tryz.ntmps59
   go_wp2_with fail
   go_ret
   exact ⟨rfl, rfl⟩

set_option maxRecDepth 100000 in
set_option maxHeartbeats 1000000 in
theorem addTable_ok (W : World) (hg : Gnd W) (B K : Nat) (x : Arc) (T : Option Addr) (tn tc cnt : Nat) (h : Col W B x T tn tc cnt) (hc : cnt = 1 ∨ (cnt = 2 ∧ x.hasMap = true)) (D : Option Addr) (n c : Nat) (l : List UInt8) (hr : Rd W K D n l) (hK : K ≤ B) (hn : n < 100000) (hnc : n ≤ c) :
   Calls Tryz.prog 59 #[.pointer (some ⟨B, 0, none⟩), .slice D n c] W fun e w' => e = .returned (.int .i64 (entsE l)) ∧ Col w' B x D n c cnt ∧ But B W w' := by
 have Hh := hid h
 obtain ⟨c0, c1, c2, c3, c4, c5, hf, hB⟩ := h.cells
 have Hc := hid (entries_any K D n c l W hg hr (by omega) hnc hn)
 clear h hr
 rcases hc with rfl | ⟨rfl, hm⟩
 · go_enter Tryz.func59, Tryz.ntmps59
   go_wp2_with fail
   refine Hc.out.mono ?_
   rintro e w1 ⟨v, rfl, _, hb⟩
   have k2 := stays (B := B) hb hB
   have f2 := staysf (B := B) hb hB
   go_wp2_with fail
   go_ret
   exact ⟨rfl, heap_setCell_same w1 B 4 _ _ _ ((hb.block B hB).trans Hh.out), (But.below hb).trans (But.set w1 4 _)⟩
 · rw [hm] at c0
   go_enter Tryz.func59, Tryz.ntmps59
   go_wp2_with fail
   refine Hc.out.mono ?_
   rintro e w1 ⟨v, rfl, _, hb⟩
   have k2 := stays (B := B) hb hB
   have f2 := staysf (B := B) hb hB
   go_wp2_with fail
   go_ret
   exact ⟨rfl, heap_setCell_same w1 B 4 _ _ _ ((hb.block B hB).trans Hh.out), (But.below hb).trans (But.set w1 4 _)⟩
end Go.Proofs.YtjobmkodgodloaaGreatDoor.Arp

namespace Go.Proofs.YtjobmkodgodloaaGreatDoor.Arp
open Go.RowKit Go.Proofs Go.Proofs.YtjobmkodgodloaaGreatDoor.Byt Go.Proofs.YtjobmkodgodloaaGreatDoor.Dec Go.Proofs.YtjobmkodgodloaaGreatDoor.Lnm Go.Proofs.YtjobmkodgodloaaGreatDoor.Hdr
open Go.Proofs.YtjobmkodgodloaaGreatDoor.Sls (Oth Fr)

structure Ch (K1 B : Nat) (W W' : World) : Prop where
 os : W'.os = W.os
 tape : W'.tape = W.tape
 output : W'.output = W.output
 size : W.heap.size ≤ W'.heap.size
 keep : ∀ (g : Nat) (o : Obj), W.heap[g]? = some o → g ≠ B → (g < K1 ∨ ((∀ cs m, o ≠ Obj.cells cs 64 m) ∧ (∀ cs m, o ≠ Obj.cells cs 3 m))) → W'.heap[g]? = some o
theorem Ch.refl (K1 B : Nat) (W : World) : Ch K1 B W W := ⟨rfl, rfl, rfl, Nat.le_refl _, fun _ _ h _ _ => h⟩
theorem Ch.trans {K1 B : Nat} {a b c : World} (h : Ch K1 B a b) (k : Ch K1 B b c) : Ch K1 B a c :=
 ⟨k.os.trans h.os, k.tape.trans h.tape, k.output.trans h.output, Nat.le_trans h.size k.size, fun g o ho hn hp => k.keep g o (h.keep g o ho hn hp) hn hp⟩
theorem Ch.but {K1 B : Nat} {W W' : World} (h : But B W W') : Ch K1 B W W' :=
 ⟨h.os, h.tape, h.output, h.size, fun g _ ho hn _ => (h.block g (Array.getElem?_eq_some_iff.1 ho).1 hn).trans ho⟩
theorem Ch.below {K1 B : Nat} {W W' : World} (h : Below W.heap.size W W') : Ch K1 B W W' := Ch.but (But.below h)
theorem Ch.push {K1 B : Nat} {W W' : World} {t : TypeId} (hb : Below K1 W W') (ho : Oth t W W') (ht : t = 64 ∨ t = 3) : Ch K1 B W W' := by
 refine ⟨hb.os, hb.tape, hb.output, hb.size, fun g o h _ hp => ?_⟩
 rcases hp with hp | ⟨h1, h2⟩
 · exact (hb.block g hp).trans h
 · rcases ht with rfl | rfl
   · exact ho g o h h1
   · exact ho g o h h2
theorem Ch.to {K1 B K : Nat} {W W' : World} (h : Ch K1 B W W') (h1 : K ≤ K1) (h2 : K ≤ B) (h3 : K ≤ W.heap.size) : Below K W W' :=
 ⟨h.os, h.tape, h.output, h.size, fun g hg => by
   have hlt : g < W.heap.size := by omega
   rw [Array.getElem?_eq_getElem hlt]
   exact h.keep g _ (Array.getElem?_eq_getElem hlt) (by omega) (.inl (by omega))⟩
theorem Ch.row {K1 B : Nat} {W W' : World} (h : Ch K1 B W W') {g : Nat} {cs : Array Value} {t : TypeId} {m : Nat × Nat} (hg : W.heap[g]? = some (.cells cs t m)) (hn : g ≠ B) (h1 : t ≠ 64) (h2 : t ≠ 3) : W'.heap[g]? = some (.cells cs t m) :=
 h.keep g _ hg hn (.inr ⟨fun _ _ e => by injection e with _ e; exact h1 e, fun _ _ e => by injection e with _ e; exact h2 e⟩)
theorem own_ch {K1 B : Nat} {W W' : World} {v : Value} {n : Nat} {l : List UInt8} (h : Byt.Own W K1 v n l) (hc : Ch K1 B W W') (hB : B < K1) : Byt.Own W' K1 v n l := by
 refine ⟨h.1, ?_⟩
 rcases h.2 with h | ⟨g, cap, cur, m, hv, hgk, hh, r⟩
 · exact .inl h
 · exact .inr ⟨g, cap, cur, m, hv, hgk, hc.row hh (by omega) (by decide) (by decide), r⟩
theorem cown_but {K1 B : Nat} {W W' : World} {t : TypeId} {sz : Nat} {v : Value} {n : Nat} {l : List Value} (h : Cel.Own t sz W K1 v n l) (hc : But B W W') (hB : B < K1) : Cel.Own t sz W' K1 v n l :=
 h.keep fun g hg hlt => hc.block g hlt (by omega)
theorem OwnM.ch {K1 B : Nat} {W W' : World} {xs : List Mem} (h : OwnM W K1 xs) (hc : Ch K1 B W W') (hB : B < K1) : OwnM W' K1 xs := fun x hx => own_ch (h x hx) hc hB
theorem OwnA.but {K1 B : Nat} {W W' : World} {x : Arc} (h : OwnA W K1 x) (hc : But B W W') (hB : B < K1) : OwnA W' K1 x :=
 ⟨own_ch h.map (Ch.but hc) hB, cown_but h.mems hc hB, h.data.ch (Ch.but hc) hB, cown_but h.offs hc hB, h.small⟩

def partM (nm : ByteArray) (t u g m : Int) (z : Nat) (a : Addr) (n c : Nat) : Value := .agg #[.string nm, .int .i64 t, .int .i64 u, .int .i64 g, .int .i64 m, .int .i64 (z : Int), .slice (some a) n c, .int .i64 0]

set_option maxRecDepth 100000 in
set_option maxHeartbeats 4000000 in
theorem addMember_bad (W : World) (hg : Gnd W) (B K0 : Nat) (x : Arc) (T : Option Addr) (tn tc cnt : Nat) (h : Col W B x T tn tc cnt) (tb : List UInt8) (hT : Rd W K0 T tn tb) (hK0 : K0 ≤ W.heap.size) (htn : tn < 100000) (htc : tn ≤ tc) (at_ : Int)
   (nm : ByteArray) (t u g m : Int) (z : Nat) (a : Addr) (n c : Nat) (hnm : nm.size ≤ 140737488355328) (hbad : resv (bts nm) tb = none) :
   Calls Tryz.prog 60 #[.pointer (some ⟨B, 0, none⟩), .int .i64 at_, partM nm t u g m z a n c] W fun e w' => e = .returned (.int .i64 6) ∧ Below W.heap.size W w' := by
 obtain ⟨c0, c1, c2, c3, c4, c5, hf, hB⟩ := h.cells
 have hb0 : Below W.heap.size W (W.alloc (.cells #[.string nm, .int .i64 t, .int .i64 u, .int .i64 g, .int .i64 m, .int .i64 (z : Int), .slice (some a) n c, .int .i64 0] 92)) := (Below.refl _ _).alloc (Nat.le_refl _) _
 have Hr := hid (fun V (hb : Below W.heap.size W V) => resolve_any K0 T tn tc tb nm V (hg.on hb) (hT.below (hb.mono hK0)) (Nat.le_trans hK0 hb.size) htc (by omega) hnm)
 rw [hbad] at Hr
 have Hb0 := hid hb0
 clear hT hg h hb0
 simp only [partM]
 go_enter Tryz.func60, Tryz.ntmps60
 go_wp2_with fail
 go_region_with (go_at_call 78; refine (Hr.out _ (by first | exact Hb0.out | exact Hb0.out.drew)).mono ?_; rintro e w1 ⟨rfl, hb1⟩)
 all_goals go_wp2_with fail
 all_goals go_ret
 all_goals exact ⟨rfl, by first | exact Hb0.out.trans (hb1.mono (by simp)) | exact Hb0.out.drew.trans (hb1.mono (by simp))⟩

def mem1 (nm : ByteArray) (t u g m : Int) (D : Option Addr) (n k : Nat) (d : List UInt8) : Mem := ⟨nm, t, u, g, m, D, n, k, d⟩

set_option linter.unusedSimpArgs false in
set_option maxRecDepth 100000 in
set_option maxHeartbeats 8000000 in
theorem addMember_ok (W : World) (hg : Gnd W) (B K0 K1 : Nat) (x : Arc) (T : Option Addr) (tn tc cnt : Nat) (h : Col W B x T tn tc cnt) (tb : List UInt8) (hT : Rd W K0 T tn tb) (hK0 : K0 ≤ B) (hK1 : B < K1) (hK2 : K1 ≤ W.heap.size) (htn : tn < 100000) (htc : tn ≤ tc) (at_ : Int)
   (hO : OwnA W K1 x) (han : x.an ≤ 100000) (hon : x.on ≤ 100000)
   (nm : ByteArray) (t u g m : Int) (z : Nat) (a : Addr) (n c : Nat) (d : List UInt8) (hd : Rd W K0 (some a) n d) (hn : n ≤ 140737488355328) (hnm : nm.size ≤ 140737488355328) (r : ByteArray) (hok : resv (bts nm) tb = some r) :
   Calls Tryz.prog 60 #[.pointer (some ⟨B, 0, none⟩), .int .i64 at_, partM nm t u g m z a n c] W fun e w' => e = .returned (.int .i64 0) ∧
     ∃ (D : Option Addr) (k : Nat) (ap op : Option Addr) (ac oc : Nat),
       Col w' B { x with ap := ap, an := x.an + 1, ac := ac, mems := x.mems ++ [mem1 r t u g m D n k d], op := op, on := x.on + 1, oc := oc, offs := x.offs ++ [at_] } T tn tc cnt ∧
       OwnA w' K1 { x with ap := ap, an := x.an + 1, ac := ac, mems := x.mems ++ [mem1 r t u g m D n k d], op := op, on := x.on + 1, oc := oc, offs := x.offs ++ [at_] } ∧ Ch K1 B W w' := by
 have Hh := hid h
 obtain ⟨c0, c1, c2, c3, c4, c5, hf, hB⟩ := h.cells
 have hb0 : Below W.heap.size W (W.alloc (.cells #[.string nm, .int .i64 t, .int .i64 u, .int .i64 g, .int .i64 m, .int .i64 (z : Int), .slice (some a) n c, .int .i64 0] 92)) := (Below.refl _ _).alloc (Nat.le_refl _) _
 have Hr := hid (fun V (hb : Below W.heap.size W V) => resolve_any K0 T tn tc tb nm V (hg.on hb) (hT.below (hb.mono (by omega))) (by have := hb.size; omega) htc (by omega) hnm)
 rw [hok, show re (some r) = 0 from rfl, show rs (some r) = r from rfl] at Hr
 have Hd := hid (fun V (hb : Below W.heap.size W V) => bclone_any K0 a n c d V (hd.below (hb.mono (by omega))) hn)
 have HO := hid hO
 have Hb0 := hid hb0
 have hrow0 : ((W.alloc (.cells #[.string nm, .int .i64 t, .int .i64 u, .int .i64 g, .int .i64 m, .int .i64 (z : Int), .slice (some a) n c, .int .i64 0] 92)).heap[W.heap.size]? = _) := heap_alloc_new W _
 have Hrow0 := hid hrow0
 clear hT hg h hb0 hd hO hrow0
 simp only [partM]
 go_enter Tryz.func60, Tryz.ntmps60
 go_wp2_with fail
 go_region_with (go_at_call 78; refine (Hr.out _ (by first | exact Hb0.out | exact Hb0.out.drew)).mono ?_; rintro e w1 ⟨rfl, hb1⟩)
 all_goals
   have hB1 : w1.heap[B]? = _ := (hb1.block B (by simp; omega)).trans ((Below.heap_alloc W _ B hB).trans Hh.out)
   have hP1 : w1.heap[W.heap.size]? = _ := (hb1.block W.heap.size (by simp)).trans Hrow0.out
   have hsz1 : W.heap.size < w1.heap.size := by have := hb1.size; simp at this; omega
   have hbW : Below W.heap.size W w1 := by first | exact Hb0.out.trans (hb1.mono (by simp)) | exact Hb0.out.drew.trans (hb1.mono (by simp))
   have p1 := cell_of_row w1 _ 1 _ _ _ hP1
   have p2 := cell_of_row w1 _ 2 _ _ _ hP1
   have p3 := cell_of_row w1 _ 3 _ _ _ hP1
   have p4 := cell_of_row w1 _ 4 _ _ _ hP1
   have p6 := cell_of_row w1 _ 6 _ _ _ hP1
   have b2 := cell_of_row w1 _ 2 _ _ _ hB1
   have b3 := cell_of_row w1 _ 3 _ _ _ hB1
   have fB : ∀ o, w1.frozen? ⟨B, o, none⟩ = false := fun o => by simp [World.frozen?, hB1]
   clear c0 c1 c2 c3 c4 c5 hf hb1
   go_wp2_with fail
   refine Ord.Till.begin (fun w' => w'.cell? ⟨B, 2, none⟩ = some (.slice x.ap x.an x.ac) ∧ w'.cell? ⟨W.heap.size, 1, none⟩ = some (.int .i64 t) ∧ w'.cell? ⟨W.heap.size, 2, none⟩ = some (.int .i64 u) ∧ w'.cell? ⟨W.heap.size, 3, none⟩ = some (.int .i64 g) ∧ w'.cell? ⟨W.heap.size, 4, none⟩ = some (.int .i64 m) ∧ w'.cell? ⟨W.heap.size, 6, none⟩ = some (.slice (some a) n c)) 28 (by kernel_rfl) ?_
   have hS0 : (fun w' => w'.cell? ⟨B, 2, none⟩ = some (.slice x.ap x.an x.ac) ∧ w'.cell? ⟨W.heap.size, 1, none⟩ = some (.int .i64 t) ∧ w'.cell? ⟨W.heap.size, 2, none⟩ = some (.int .i64 u) ∧ w'.cell? ⟨W.heap.size, 3, none⟩ = some (.int .i64 g) ∧ w'.cell? ⟨W.heap.size, 4, none⟩ = some (.int .i64 m) ∧ w'.cell? ⟨W.heap.size, 6, none⟩ = some (.slice (some a) n c)) w1.drew := ⟨b2, p1, p2, p3, p4, p6⟩
   refine Ord.Till.take 0 (oi := _) (x := ?_) rfl (by kernel_rfl) (by kernel_rfl) (by kernel_rfl) (by kernel_rfl) (fun _ _ _ h => h) (by rfl) ?_ hS0 ?_
   rotate_left 1
   · intro v hv; obtain ⟨s2, q1, q2, q3, q4, q6⟩ := hv; go_simp; first | done | with_reducible rfl
   try simp only [Act.put, List.setIfInBounds_toArray, List.set_cons_zero, List.set_cons_succ]
   refine Ord.Till.take 1 (oi := _) (x := ?_) rfl (by kernel_rfl) (by kernel_rfl) (by kernel_rfl) (by kernel_rfl) (fun _ _ _ h => h) (by rfl) ?_ hS0 ?_
   rotate_left 1
   · intro v hv; obtain ⟨s2, q1, q2, q3, q4, q6⟩ := hv; go_simp; first | done | with_reducible rfl
   try simp only [Act.put, List.setIfInBounds_toArray, List.set_cons_zero, List.set_cons_succ]
   refine Ord.Till.take 2 (oi := _) (x := ?_) rfl (by kernel_rfl) (by kernel_rfl) (by kernel_rfl) (by kernel_rfl) (fun _ _ _ h => h) (by rfl) ?_ hS0 ?_
   rotate_left 1
   · intro v hv; obtain ⟨s2, q1, q2, q3, q4, q6⟩ := hv; go_simp; first | done | with_reducible rfl
   try simp only [Act.put, List.setIfInBounds_toArray, List.set_cons_zero, List.set_cons_succ]
   refine Ord.Till.take 3 (oi := _) (x := ?_) rfl (by kernel_rfl) (by kernel_rfl) (by kernel_rfl) (by kernel_rfl) (fun _ _ _ h => h) (by rfl) ?_ hS0 ?_
   rotate_left 1
   · intro v hv; obtain ⟨s2, q1, q2, q3, q4, q6⟩ := hv; go_simp; first | done | with_reducible rfl
   try simp only [Act.put, List.setIfInBounds_toArray, List.set_cons_zero, List.set_cons_succ]
   refine Ord.Till.take 4 (oi := _) (x := ?_) rfl (by kernel_rfl) (by kernel_rfl) (by kernel_rfl) (by kernel_rfl) (fun _ _ _ h => h) (by rfl) ?_ hS0 ?_
   rotate_left 1
   · intro v hv; obtain ⟨s2, q1, q2, q3, q4, q6⟩ := hv; go_simp; first | done | with_reducible rfl
   try simp only [Act.put, List.setIfInBounds_toArray, List.set_cons_zero, List.set_cons_succ]
   refine Ord.Till.take 5 (oi := _) (x := ?_) rfl (by kernel_rfl) (by kernel_rfl) (by kernel_rfl) (by kernel_rfl) (fun _ _ _ h => h) (by rfl) ?_ hS0 ?_
   rotate_left 1
   · intro v hv; obtain ⟨s2, q1, q2, q3, q4, q6⟩ := hv; go_simp; first | done | with_reducible rfl
   try simp only [Act.put, List.setIfInBounds_toArray, List.set_cons_zero, List.set_cons_succ]
   refine Ord.Till.take 6 (oi := _) (x := ?_) rfl (by kernel_rfl) (by kernel_rfl) (by kernel_rfl) (by kernel_rfl) (fun _ _ _ h => h) (by rfl) ?_ hS0 ?_
   rotate_left 1
   · intro v hv; obtain ⟨s2, q1, q2, q3, q4, q6⟩ := hv; go_simp; first | done | with_reducible rfl
   try simp only [Act.put, List.setIfInBounds_toArray, List.set_cons_zero, List.set_cons_succ]
   refine Ord.Till.take 7 (oi := _) (x := ?_) rfl (by kernel_rfl) (by kernel_rfl) (by kernel_rfl) (by kernel_rfl) (fun _ _ _ h => h) (by rfl) ?_ hS0 ?_
   rotate_left 1
   · intro v hv; obtain ⟨s2, q1, q2, q3, q4, q6⟩ := hv; go_simp; first | done | with_reducible rfl
   try simp only [Act.put, List.setIfInBounds_toArray, List.set_cons_zero, List.set_cons_succ]
   refine Ord.Till.take 8 (oi := _) (x := ?_) rfl (by kernel_rfl) (by kernel_rfl) (by kernel_rfl) (by kernel_rfl) (fun _ _ _ h => h) (by rfl) ?_ hS0 ?_
   rotate_left 1
   · intro v hv; obtain ⟨s2, q1, q2, q3, q4, q6⟩ := hv; go_simp; first | done | with_reducible rfl
   try simp only [Act.put, List.setIfInBounds_toArray, List.set_cons_zero, List.set_cons_succ]
   refine Ord.Till.take 9 (oi := _) (x := ?_) rfl (by kernel_rfl) (by kernel_rfl) (by kernel_rfl) (by kernel_rfl) (fun _ _ _ h => h) (by rfl) ?_ hS0 ?_
   rotate_left 1
   · intro v hv; obtain ⟨s2, q1, q2, q3, q4, q6⟩ := hv; go_simp; first | done | with_reducible rfl
   try simp only [Act.put, List.setIfInBounds_toArray, List.set_cons_zero, List.set_cons_succ]
   refine Ord.Till.take 10 (oi := _) (x := ?_) rfl (by kernel_rfl) (by kernel_rfl) (by kernel_rfl) (by kernel_rfl) (fun _ _ _ h => h) (by rfl) ?_ hS0 ?_
   rotate_left 1
   · intro v hv; obtain ⟨s2, q1, q2, q3, q4, q6⟩ := hv; go_simp; first | done | with_reducible rfl
   try simp only [Act.put, List.setIfInBounds_toArray, List.set_cons_zero, List.set_cons_succ]
   refine Ord.Till.take 11 (oi := _) (x := ?_) rfl (by kernel_rfl) (by kernel_rfl) (by kernel_rfl) (by kernel_rfl) (fun _ _ _ h => h) (by rfl) ?_ hS0 ?_
   rotate_left 1
   · intro v hv; obtain ⟨s2, q1, q2, q3, q4, q6⟩ := hv; go_simp; first | done | with_reducible rfl
   try simp only [Act.put, List.setIfInBounds_toArray, List.set_cons_zero, List.set_cons_succ]
   refine Ord.Till.take 12 (oi := _) (x := ?_) rfl (by kernel_rfl) (by kernel_rfl) (by kernel_rfl) (by kernel_rfl) (fun _ _ _ h => h) (by rfl) ?_ hS0 ?_
   rotate_left 1
   · intro v hv; obtain ⟨s2, q1, q2, q3, q4, q6⟩ := hv; go_simp; first | done | with_reducible rfl
   try simp only [Act.put, List.setIfInBounds_toArray, List.set_cons_zero, List.set_cons_succ]
   refine Ord.Till.take 13 (oi := _) (x := ?_) rfl (by kernel_rfl) (by kernel_rfl) (by kernel_rfl) (by kernel_rfl) (fun _ _ _ h => h) (by rfl) ?_ hS0 ?_
   rotate_left 1
   · intro v hv; obtain ⟨s2, q1, q2, q3, q4, q6⟩ := hv; go_simp; first | done | with_reducible rfl
   try simp only [Act.put, List.setIfInBounds_toArray, List.set_cons_zero, List.set_cons_succ]
   refine Ord.Till.take 14 (oi := _) (x := ?_) rfl (by kernel_rfl) (by kernel_rfl) (by kernel_rfl) (by kernel_rfl) (fun _ _ _ h => h) (by rfl) ?_ hS0 ?_
   rotate_left 1
   · intro v hv; obtain ⟨s2, q1, q2, q3, q4, q6⟩ := hv; go_simp; first | done | with_reducible rfl
   try simp only [Act.put, List.setIfInBounds_toArray, List.set_cons_zero, List.set_cons_succ]
   refine Ord.Till.take 15 (oi := _) (x := ?_) rfl (by kernel_rfl) (by kernel_rfl) (by kernel_rfl) (by kernel_rfl) (fun _ _ _ h => h) (by rfl) ?_ hS0 ?_
   rotate_left 1
   · intro v hv; obtain ⟨s2, q1, q2, q3, q4, q6⟩ := hv; go_simp; first | done | with_reducible rfl
   try simp only [Act.put, List.setIfInBounds_toArray, List.set_cons_zero, List.set_cons_succ]
   refine Ord.Till.take 16 (oi := _) (x := ?_) rfl (by kernel_rfl) (by kernel_rfl) (by kernel_rfl) (by kernel_rfl) (fun _ _ _ h => h) (by rfl) ?_ hS0 ?_
   rotate_left 1
   · intro v hv; obtain ⟨s2, q1, q2, q3, q4, q6⟩ := hv; go_simp; first | done | with_reducible rfl
   try simp only [Act.put, List.setIfInBounds_toArray, List.set_cons_zero, List.set_cons_succ]
   refine Ord.Till.take 17 (oi := _) (x := ?_) rfl (by kernel_rfl) (by kernel_rfl) (by kernel_rfl) (by kernel_rfl) (fun _ _ _ h => h) (by rfl) ?_ hS0 ?_
   rotate_left 1
   · intro v hv; obtain ⟨s2, q1, q2, q3, q4, q6⟩ := hv; go_simp; first | done | with_reducible rfl
   try simp only [Act.put, List.setIfInBounds_toArray, List.set_cons_zero, List.set_cons_succ]
   refine Ord.Till.take 18 (oi := _) (x := ?_) rfl (by kernel_rfl) (by kernel_rfl) (by kernel_rfl) (by kernel_rfl) (fun _ _ _ h => h) (by rfl) ?_ hS0 ?_
   rotate_left 1
   · intro v hv; obtain ⟨s2, q1, q2, q3, q4, q6⟩ := hv; go_simp; first | done | with_reducible rfl
   try simp only [Act.put, List.setIfInBounds_toArray, List.set_cons_zero, List.set_cons_succ]
   refine Ord.Till.take 19 (oi := _) (x := ?_) rfl (by kernel_rfl) (by kernel_rfl) (by kernel_rfl) (by kernel_rfl) (fun _ _ _ h => h) (by rfl) ?_ hS0 ?_
   rotate_left 1
   · intro v hv; obtain ⟨s2, q1, q2, q3, q4, q6⟩ := hv; go_simp; first | done | with_reducible rfl
   try simp only [Act.put, List.setIfInBounds_toArray, List.set_cons_zero, List.set_cons_succ]
   refine Ord.Till.take 20 (oi := _) (x := ?_) rfl (by kernel_rfl) (by kernel_rfl) (by kernel_rfl) (by kernel_rfl) (fun _ _ _ h => h) (by rfl) ?_ hS0 ?_
   rotate_left 1
   · intro v hv; obtain ⟨s2, q1, q2, q3, q4, q6⟩ := hv; go_simp; first | done | with_reducible rfl
   try simp only [Act.put, List.setIfInBounds_toArray, List.set_cons_zero, List.set_cons_succ]
   refine Ord.Till.step 21 (by kernel_rfl) rfl (fun C hC => ?_)
   go_simp
   go_at_call 76
   refine (Hd.out _ hbW.drew).mono ?_
   rintro e w2 ⟨D, k, rfl, ho, hb2⟩
   have hq2 : w1.heap.size ≤ w2.heap.size := hb2.size
   have hs2 : W.heap.size < w2.heap.size := by omega
   have hB2 : w2.heap[B]? = _ := (hb2.block B (show B < w1.heap.size by omega)).trans hB1
   have hP2 : w2.heap[W.heap.size]? = _ := (hb2.block W.heap.size (show W.heap.size < w1.heap.size by omega)).trans hP1
   have om2 : Cel.Own 64 6 w2 K1 (.slice x.ap x.an x.ac) x.an (mcells x.mems) := (HO.out.mems.below hbW).keep fun g _ hlt => hb2.block g hlt
   have hS2 : (fun w' => w'.cell? ⟨B, 2, none⟩ = some (.slice x.ap x.an x.ac) ∧ w'.cell? ⟨W.heap.size, 1, none⟩ = some (.int .i64 t) ∧ w'.cell? ⟨W.heap.size, 2, none⟩ = some (.int .i64 u) ∧ w'.cell? ⟨W.heap.size, 3, none⟩ = some (.int .i64 g) ∧ w'.cell? ⟨W.heap.size, 4, none⟩ = some (.int .i64 m) ∧ w'.cell? ⟨W.heap.size, 6, none⟩ = some (.slice (some a) n c)) w2 := ⟨cell_of_row w2 _ 2 _ _ _ hB2, cell_of_row w2 _ 1 _ _ _ hP2, cell_of_row w2 _ 2 _ _ _ hP2, cell_of_row w2 _ 3 _ _ _ hP2, cell_of_row w2 _ 4 _ _ _ hP2, cell_of_row w2 _ 6 _ _ _ hP2⟩
   go_wp2_with fail
   refine hC.out _ _ (fun hz => hS2) ?_
   clear hC C
   try simp only [Act.put, List.setIfInBounds_toArray, List.set_cons_zero, List.set_cons_succ]
   refine Ord.Till.step 22 (by kernel_rfl) rfl (fun C hC => ?_)
   go_simp
   refine hC.out _ _ (fun hz => hS2) ?_
   clear hC C
   try simp only [Act.put, List.setIfInBounds_toArray, List.set_cons_zero, List.set_cons_succ]
   have hS2' : (fun w' => w'.cell? ⟨B, 2, none⟩ = some (.slice x.ap x.an x.ac) ∧ w'.cell? ⟨W.heap.size, 1, none⟩ = some (.int .i64 t) ∧ w'.cell? ⟨W.heap.size, 2, none⟩ = some (.int .i64 u) ∧ w'.cell? ⟨W.heap.size, 3, none⟩ = some (.int .i64 g) ∧ w'.cell? ⟨W.heap.size, 4, none⟩ = some (.int .i64 m) ∧ w'.cell? ⟨W.heap.size, 6, none⟩ = some (.slice (some a) n c)) (w2.alloc (.cells #[.string r, .int .i64 t, .int .i64 u, .int .i64 g, .int .i64 m, .slice D n k] 64)) := ⟨Lib.cell?_alloc_some _ hS2.1, Lib.cell?_alloc_some _ hS2.2.1, Lib.cell?_alloc_some _ hS2.2.2.1, Lib.cell?_alloc_some _ hS2.2.2.2.1, Lib.cell?_alloc_some _ hS2.2.2.2.2.1, Lib.cell?_alloc_some _ hS2.2.2.2.2.2⟩
   refine Ord.Till.step 23 (by kernel_rfl) rfl (fun C hC => ?_)
   go_simp
   refine hC.out _ _ (fun hz => hS2') ?_
   clear hC C
   try simp only [Act.put, List.setIfInBounds_toArray, List.set_cons_zero, List.set_cons_succ]
   refine Ord.Till.step 24 (by kernel_rfl) rfl (fun C hC => ?_)
   refine Cel.step_app kM _ K1 (.slice x.ap x.an x.ac) x.an (mcells x.mems) (om2.alloc _) (show K1 ≤ (World.alloc w2 _).heap.size by rw [World.size_alloc]; omega) ⟨w2.heap.size, 0, none⟩ 1 1 [.string r, .int .i64 t, .int .i64 u, .int .i64 g, .int .i64 m, .slice D n k] rfl (by simp [Value.oneCell']) (World.news_of_block (cs := #[.string r, .int .i64 t, .int .i64 u, .int .i64 g, .int .i64 m, .slice D n k]) (t := 64) (fr := (0, 0)) (heap_alloc_new w2 _)) (by omega) (by omega) (by rfl) _ _ (by rfl) (by rfl) (by rfl) ?_
   intro v' w3 hown3 hb3 ho3 hf3
   obtain ⟨A', c', rfl, hrd3, _⟩ := hown3.reads
   have hB3 : w3.heap[B]? = _ := (hb3.block B hK1).trans ((Below.heap_alloc w2 _ B (by omega)).trans hB2)
   have hP3 := ho3 _ _ ((Below.heap_alloc w2 _ _ hs2).trans hP2) (fun _ _ e => by simp at e)
   have hS3 : (fun w' => w'.cell? ⟨B, 2, none⟩ = some (.slice x.ap x.an x.ac) ∧ w'.cell? ⟨W.heap.size, 1, none⟩ = some (.int .i64 t) ∧ w'.cell? ⟨W.heap.size, 2, none⟩ = some (.int .i64 u) ∧ w'.cell? ⟨W.heap.size, 3, none⟩ = some (.int .i64 g) ∧ w'.cell? ⟨W.heap.size, 4, none⟩ = some (.int .i64 m) ∧ w'.cell? ⟨W.heap.size, 6, none⟩ = some (.slice (some a) n c)) w3 := ⟨cell_of_row w3 _ 2 _ _ _ hB3, cell_of_row w3 _ 1 _ _ _ hP3, cell_of_row w3 _ 2 _ _ _ hP3, cell_of_row w3 _ 3 _ _ _ hP3, cell_of_row w3 _ 4 _ _ _ hP3, cell_of_row w3 _ 6 _ _ _ hP3⟩
   refine hC.out _ _ (fun hz => hS3) ?_
   clear hC C
   try simp only [Act.put, List.setIfInBounds_toArray, List.set_cons_zero, List.set_cons_succ]
   refine Ord.Till.step 25 (by kernel_rfl) rfl (fun C hC => ?_)
   go_simp
   refine hC.out _ _ (fun hz => hS3) ?_
   clear hC C
   try simp only [Act.put, List.setIfInBounds_toArray, List.set_cons_zero, List.set_cons_succ]
   refine Ord.Till.step 26 (by kernel_rfl) rfl (fun C hC => ?_)
   go_simp
   refine hC.out _ _ (fun hz => hS3) ?_
   clear hC C
   try simp only [Act.put, List.setIfInBounds_toArray, List.set_cons_zero, List.set_cons_succ]
   refine Ord.Till.step 27 (by kernel_rfl) rfl (fun C hC => ?_)
   go_simp
   refine hC.out _ _ (fun hz => hS3) ?_
   clear hC C
   try simp only [Act.put, List.setIfInBounds_toArray, List.set_cons_zero, List.set_cons_succ]
   have z3 := hS3.1
   have f3 : ∀ o, w3.frozen? ⟨B, o, none⟩ = false := fun o => by simp [World.frozen?, hB3]
   refine Ord.Till.step 28 (by kernel_rfl) rfl (fun C hC => ?_)
   go_simp
   refine hC.out _ _ (fun hz => absurd rfl hz) ?_
   clear hC C
   try simp only [Act.put, List.setIfInBounds_toArray, List.set_cons_zero, List.set_cons_succ]
   refine Ord.Till.done (by kernel_rfl) ?_ _
   clear hS0 hS2 hS2' hS3 z3 f3 p1 p2 p3 p4 p6 b2 b3 fB
   have hB4 := heap_setCell_same w3 B 2 _ _ (Value.slice A' (x.an + 1) c') hB3
   have hch24 : Ch K1 B w2 (w3.setCell ⟨B, 2, none⟩ (Value.slice A' (x.an + 1) c')) := ((Ch.below ((Below.refl _ _).alloc (Nat.le_refl _) _)).trans (Ch.push hb3 ho3 (.inl rfl))).trans (Ch.but (But.set w3 2 _))
   have hch4 : Ch K1 B W (w3.setCell ⟨B, 2, none⟩ (Value.slice A' (x.an + 1) c')) := ((Ch.below hbW.drew).trans (Ch.below hb2)).trans hch24
   have oo2 : Cel.Own 3 1 w2 K1 (.slice x.op x.on x.oc) x.on (x.offs.map (Value.int .i64)) := (HO.out.offs.below hbW).keep fun g _ hlt => hb2.block g hlt
   have oo4 := cown_but ((oo2.alloc _).oth ho3 (by decide)) (But.set (B := B) w3 2 (Value.slice A' (x.an + 1) c')) hK1
   have om4 := cown_but hown3 (But.set (B := B) w3 2 (Value.slice A' (x.an + 1) c')) hK1
   have hqd : K1 ≤ w1.drew.heap.size := by show K1 ≤ w1.heap.size; omega
   have hod := own_ch (ho.more hqd) hch24 hK1
   have hs4 : K1 ≤ (w3.setCell ⟨B, 2, none⟩ (Value.slice A' (x.an + 1) c')).heap.size := by have := hch4.size; omega
   clear hP3 hB3 hrd3 hf3 hown3 ho3 hb3 om2 hP2 hB2 oo2 hch24 ho hqd
   generalize w3.setCell ⟨B, 2, none⟩ (Value.slice A' (x.an + 1) c') = w4 at *
   have b43 := cell_of_row w4 B 3 _ _ _ hB4
   have fB4 : ∀ o, w4.frozen? ⟨B, o, none⟩ = false := fun o => by simp [World.frozen?, hB4]
   go_wp2_with (at_builtin; refine Cel.wpList_push kI w4 K1 (.slice x.op x.on x.oc) x.on (x.offs.map (Value.int .i64)) oo4 hs4 1 1 #[.int .i64 at_] (0, 0) rfl (by simp [Value.oneCell']) (by omega) (by omega) rfl (.tmp 56) (.tmp 58) rfl rfl rfl ?_; intro v5 w5 hown5 hb5 ho5 hf5; obtain ⟨A5, k5, rfl, _⟩ := hown5.reads; have hB5 : w5.heap[B]? = _ := (hb5.block B hK1).trans hB4; have fB5 : ∀ o, w5.frozen? ⟨B, o, none⟩ = false := (fun o => by simp [World.frozen?, hB5]); have b53 := cell_of_row w5 B 3 _ _ _ hB5)
   go_ret
   have hch5 : Ch K1 B w4 (w5.setCell ⟨B, 3, none⟩ (Value.slice A5 (x.on + 1) k5)) := (Ch.push hb5 ho5 (.inr rfl)).trans (Ch.but (But.set w5 3 _))
   have hsm := HO.out.small
   refine ⟨rfl, D, k, A', A5, c', k5, heap_setCell_same w5 B 3 _ _ _ hB5, ⟨own_ch HO.out.map (hch4.trans hch5) hK1, ?_, ?_, ?_, hsm.1, by show x.an + 1 ≤ _; omega, by show x.on + 1 ≤ _; omega, ?_⟩, hch4.trans hch5⟩
   · have := cown_but (om4.oth ho5 (by decide)) (But.set (B := B) w5 3 (Value.slice A5 (x.on + 1) k5)) hK1
     show Cel.Own _ _ _ _ _ _ (mcells (x.mems ++ [mem1 r t u g m D n k d]))
     rw [mcells_append]
     exact this
   · intro y hy
     rcases List.mem_append.1 hy with hy | hy
     · exact (HO.out.data.ch (hch4.trans hch5) hK1) y hy
     · rw [List.mem_singleton] at hy
       subst hy
       exact own_ch hod hch5 hK1
   · have := cown_but hown5 (But.set (B := B) w5 3 (Value.slice A5 (x.on + 1) k5)) hK1
     show Cel.Own _ _ _ _ _ _ ((x.offs ++ [at_]).map (Value.int .i64))
     rw [List.map_append]
     exact this
   · intro y hy
     rcases List.mem_append.1 hy with hy | hy
     · exact hsm.2.2.2 y hy
     · rw [List.mem_singleton] at hy
       subst hy
       exact hn
end Go.Proofs.YtjobmkodgodloaaGreatDoor.Arp

namespace Go.Proofs.YtjobmkodgodloaaGreatDoor.Arp
open Go.RowKit Go.Proofs Go.Proofs.YtjobmkodgodloaaGreatDoor.Byt Go.Proofs.YtjobmkodgodloaaGreatDoor.Dec Go.Proofs.YtjobmkodgodloaaGreatDoor.Lnm Go.Proofs.YtjobmkodgodloaaGreatDoor.Hdr

structure Inv (W : World) (K0 K1 B : Nat) (s : St) (x : Arc) (T : Option Addr) (tn tc : Nat) : Prop where
 col : Col W B x T tn tc s.cnt
 own : OwnA W K1 x
 is : x.is s
 tab : Rd W K0 T tn (s.tbl.getD [])
 small : tn < 100000
 cap : tn ≤ tc
theorem OwnA.lens {W : World} {K1 : Nat} {x : Arc} (h : OwnA W K1 x) : x.mems.length = x.an ∧ x.offs.length = x.on := by
 have h1 := h.mems.1
 have h2 := h.offs.1
 rw [mcells_length] at h1
 rw [List.length_map] at h2
 exact ⟨by omega, by omega⟩
theorem Inv.lens {W : World} {K0 K1 B : Nat} {s : St} {x : Arc} {T : Option Addr} {tn tc : Nat} (h : Inv W K0 K1 B s x T tn tc) (ho : Ok s) : x.an = s.mems.length ∧ x.on = s.mems.length := by
 obtain ⟨h1, h2⟩ := h.own.lens
 have h3 := congrArg List.length h.is.2.2.1
 have h4 := congrArg List.length h.is.2.2.2
 rw [List.length_map] at h3
 rw [ho.len] at h4
 exact ⟨by omega, by omega⟩

theorem name_is (s : ByteArray) (l : List UInt8) (t : ByteArray) (ht : t.toList = l) : (s.toList == l) = decide (s = t) := by
 by_cases h : s = t
 · subst h
   rw [ht]
   simp
 · have : ¬ s.toList = l := by
     intro e
     apply h
     rw [← ht] at e
     rw [Lib.toList_data, Lib.toList_data] at e
     cases s; cases t
     simp at e
     rw [e]
   simp [h, this]
theorem map_list : nmMap.toList = [47] := by decide +kernel
theorem tab_list : nmTab.toList = [47, 47] := by decide +kernel

def Adds (K0 K1 B : Nat) (s : St) (at_ : Nat) (r : List UInt8) (W : World) (e : Ending) (w' : World) : Prop :=
 e = .returned (.int .i64 (stepE s r)) ∧ Ch K1 B W w' ∧ (stepE s r = 0 → ∃ x T tn tc, Inv w' K0 K1 B (stepS s at_ r) x T tn tc)

set_option maxRecDepth 100000 in
set_option maxHeartbeats 2000000 in
theorem add_bad (W : World) (B K0 K1 : Nat) (s : St) (at_ : Nat) (A : Option Addr) (c : Nat) (r : List UInt8) (hp : perr r ≠ 0) :
   Calls Tryz.prog 35 #[.pointer (some ⟨B, 0, none⟩), .int .i64 (at_ : Int), partV A c r] W (Adds K0 K1 B s at_ r W) := by
 have HE : Hid (stepE s r = perr r) := hid (by unfold stepE; rw [if_pos hp])
 have hne : (perr r != 0) = true := by simpa using hp
 have Hp := hid hp
 rw [partV_bad rfl hp]
 clear hp
 generalize perr r = pe at *
 go_enter Tryz.func35, Tryz.ntmps35
 go_wp2_with fail
 go_ret
 exact ⟨by rw [HE.out]; rfl, Ch.below ((Below.refl _ _).alloc (Nat.le_refl _) _), fun h => absurd (HE.out.symm.trans h) Hp.out⟩

theorem stepE_map {s : St} {r : List UInt8} (hp : perr r = 0) (hn : dname r = nmMap) : stepE s r = if s.cnt = 0 then 0 else 8 := by
 unfold stepE; rw [if_neg (by simp [hp]), if_pos hn]
theorem nmMap_ne : ¬ nmTab = nmMap := by decide
theorem stepE_tab {s : St} {r : List UInt8} (hp : perr r = 0) (hn : dname r = nmTab) : stepE s r = if s.mayTab = true ∧ good (pdata r) = true then 0 else 7 := by
 unfold stepE; rw [if_neg (by simp [hp]), if_neg (by rw [hn]; exact nmMap_ne), if_pos hn]
theorem stepE_mem {s : St} {r : List UInt8} (hp : perr r = 0) (h1 : dname r ≠ nmMap) (h2 : dname r ≠ nmTab) : stepE s r = re (pname s r) := by
 unfold stepE; rw [if_neg (by simp [hp]), if_neg h1, if_neg h2]

theorem counted {W : World} {B K0 K1 : Nat} {s : St} {x : Arc} {T : Option Addr} {tn tc : Nat} (h : Inv W K0 K1 B s x T tn tc) (o : Obj) (hB : B < W.heap.size) :
   Col ((W.setCell ⟨B, 5, none⟩ (.int .i64 ((s.cnt : Int) + 1))).alloc o) B x T tn tc (s.cnt + 1) ∧ But B W ((W.setCell ⟨B, 5, none⟩ (.int .i64 ((s.cnt : Int) + 1))).alloc o) := by
 have h1 := heap_setCell_same W B 5 _ _ (.int .i64 ((s.cnt : Int) + 1)) h.col
 have h2 := (Below.heap_alloc (W.setCell ⟨B, 5, none⟩ (.int .i64 ((s.cnt : Int) + 1))) o B (by simpa using hB)).trans h1
 exact ⟨h2, (But.set W 5 _).trans (But.below ((Below.refl _ _).alloc (Nat.le_refl _) _))⟩

theorem data_at {W : World} {K0 b o n c : Nat} {r : List UInt8} (hr : Rd W K0 (some ⟨b, o, none⟩) n r) (hnc : n ≤ c) (hp : perr r = 0) : (∃ a, cutp (some ⟨b, o, none⟩) c 60 = some a) ∧ Rd W K0 (cutp (some ⟨b, o, none⟩) c 60) (psz r) (pdata r) ∧ psz r ≤ n ∧ psz r ≤ c - 60 := by
 obtain ⟨_, h2, _⟩ := perr_ok hp
 have hl := hr.1
 unfold plen pad at h2
 refine ⟨?_, (rd_cutp hr hnc).pre (by omega), by omega, by omega⟩
 unfold cutp
 split
 · exact ⟨_, rfl⟩
 · exact ⟨_, rfl⟩
theorem name_yes {s : ByteArray} {l : List UInt8} {t : ByteArray} (ht : t.toList = l) (h : s = t) : (s.toList == l) = true := by rw [name_is s l t ht, decide_eq_true h]
theorem name_no {s : ByteArray} {l : List UInt8} {t : ByteArray} (ht : t.toList = l) (h : s ≠ t) : (s.toList == l) = false := by rw [name_is s l t ht, decide_eq_false h]

set_option maxRecDepth 100000 in
set_option maxHeartbeats 2000000 in
theorem add_map (W : World) (B K0 K1 : Nat) (s : St) (hs : Ok s) (x : Arc) (T : Option Addr) (tn tc : Nat) (hI : Inv W K0 K1 B s x T tn tc) (hcnt : s.cnt ≤ 100000) (hK0 : K0 ≤ B) (hK1 : B < K1) (hK2 : K1 ≤ W.heap.size) (at_ : Nat) (b o n c : Nat) (r : List UInt8)
   (hr : Rd W K0 (some ⟨b, o, none⟩) n r) (hnc : n ≤ c) (hn : n < 100000) (hp : perr r = 0) (hnm : dname r = nmMap) :
   Calls Tryz.prog 35 #[.pointer (some ⟨B, 0, none⟩), .int .i64 (at_ : Int), partV (some ⟨b, o, none⟩) c r] W (Adds K0 K1 B s at_ r W) := by
 have HE : Hid (stepE s r = if s.cnt = 0 then 0 else 8) := hid (stepE_map hp hnm)
 have HS : Hid (stepE s r = 0 → (stepS s at_ r).cnt = s.cnt + 1 ∧ stepS s at_ r = { s with hasMap := true, map := pdata r }) := hid fun h => ⟨(step_ok (a := at_) hs h).2, by unfold stepS; rw [if_pos hnm]⟩
 obtain ⟨⟨a, ha⟩, hrd, hpn, hpc⟩ := data_at hr hnc hp
 rw [ha] at hrd
 obtain ⟨c0, c1, c2, c3, c4, c5, hf, hB⟩ := hI.col.cells
 have hb1 := name_yes map_list hnm
 rw [partV_ok hp, ha]
 have Hcb := hid (fun ob => counted hI ob hB)
 have Hrd := hid hrd
 have HI := hid hI
 clear hr hrd hI hnm hp
 generalize dname r = d at *
 generalize psz r = z at *
 go_enter Tryz.func35, Tryz.ntmps35
 by_cases h0 : s.cnt = 0
 · rw [h0] at c5 Hcb
   go_wp2_with fail
   obtain ⟨hcol, hbut⟩ := Hcb.out (.cells #[.string d, .int .i64 (dnum r 0), .int .i64 (dnum r 1), .int .i64 (dnum r 2), .int .i64 (dnum r 3), .int .i64 (dnum r 4), .slice (some a) z (c - 60), .int .i64 0] 92)
   refine (addMap_ok _ B K0 x T tn tc hcol a z (c - 60) (pdata r) (Hrd.out.below (hbut.to hK0 (by omega))) hK0 (by omega)).mono ?_
   rintro e w2 ⟨rfl, D, k, hcol2, hown2, hbut2⟩
   go_wp2_with fail
   go_ret
   have hE0 : stepE s r = 0 := by rw [HE.out, if_pos h0]
   have hbA := hbut.trans hbut2
   have hsz := hbut.size
   refine ⟨by rw [hE0]; rfl, Ch.but hbA, fun h => ?_⟩
   obtain ⟨q1, q2⟩ := HS.out h
   have hO := HI.out.own.but hbA hK1
   refine ⟨{ x with hasMap := true, mp := D, mn := z, mc := k, map := pdata r }, T, tn, tc, ⟨?_, ⟨hown2.more (by omega), hO.mems, hO.data, hO.offs, by show z ≤ _; omega, hO.small.2⟩, ?_, ?_, HI.out.small, HI.out.cap⟩⟩
   · rw [q1, h0]; exact hcol2
   · rw [q2]; exact ⟨rfl, rfl, HI.out.is.2.2⟩
   · rw [q2]; exact HI.out.tab.below (hbA.to hK0 (by omega))
 · have hc1 : s.cnt + 1 ≠ 1 := by omega
   go_wp2_with fail
   obtain ⟨hcol, hbut⟩ := Hcb.out (.cells #[.string d, .int .i64 (dnum r 0), .int .i64 (dnum r 1), .int .i64 (dnum r 2), .int .i64 (dnum r 3), .int .i64 (dnum r 4), .slice (some a) z (c - 60), .int .i64 0] 92)
   refine (addMap_bad _ B x T tn tc _ hcol hc1 _).mono ?_
   rintro e w2 ⟨rfl, rfl⟩
   go_wp2_with fail
   go_ret
   have hE8 : stepE s r = 8 := by rw [HE.out, if_neg h0]
   exact ⟨by rw [hE8]; rfl, Ch.but hbut, fun h => absurd (hE8.symm.trans h) (by decide)⟩

set_option maxRecDepth 100000 in
set_option maxHeartbeats 2000000 in
theorem add_tab (W : World) (B K0 K1 : Nat) (hg : ∀ V, Below K0 W V → Gnd V) (s : St) (hs : Ok s) (x : Arc) (T : Option Addr) (tn tc : Nat) (hI : Inv W K0 K1 B s x T tn tc) (hcnt : s.cnt ≤ 100000) (hK0 : K0 ≤ B) (hK1 : B < K1) (_hK2 : K1 ≤ W.heap.size) (at_ : Nat) (b o n c : Nat) (r : List UInt8)
   (hr : Rd W K0 (some ⟨b, o, none⟩) n r) (hnc : n ≤ c) (hn : n < 100000) (hp : perr r = 0) (hnm : dname r = nmTab) :
   Calls Tryz.prog 35 #[.pointer (some ⟨B, 0, none⟩), .int .i64 (at_ : Int), partV (some ⟨b, o, none⟩) c r] W (Adds K0 K1 B s at_ r W) := by
 have HE : Hid (stepE s r = if s.mayTab = true ∧ good (pdata r) = true then 0 else 7) := hid (stepE_tab hp hnm)
 have HS : Hid (stepE s r = 0 → (stepS s at_ r).cnt = s.cnt + 1 ∧ stepS s at_ r = { s with tbl := some (pdata r) }) := hid fun h => ⟨(step_ok (a := at_) hs h).2, by unfold stepS; rw [if_neg (by rw [hnm]; exact nmMap_ne), if_pos hnm]⟩
 obtain ⟨⟨a, ha⟩, hrd, hpn, hpc⟩ := data_at hr hnc hp
 rw [ha] at hrd
 obtain ⟨c0, c1, c2, c3, c4, c5, hf, hB⟩ := hI.col.cells
 have hb1 := name_no map_list (show dname r ≠ nmMap by rw [hnm]; exact nmMap_ne)
 have hb2 := name_yes tab_list hnm
 rw [partV_ok hp, ha]
 have Hcb := hid (fun ob => counted hI ob hB)
 have Hrd := hid hrd
 have HI := hid hI
 have Hg := hid hg
 have Hm : Hid (s.mayTab = true ↔ (s.cnt + 1 = 1 ∨ (s.cnt + 1 = 2 ∧ x.hasMap = true))) := hid (by rw [mayTab_cnt, hI.is.1]; constructor <;> (rintro (h | ⟨h, h'⟩) <;> first | (left; omega) | exact .inr ⟨by omega, h'⟩))
 clear hr hrd hI hnm hp hg
 generalize dname r = d at *
 generalize psz r = z at *
 go_enter Tryz.func35, Tryz.ntmps35
 go_wp2_with fail
 obtain ⟨hcol, hbut⟩ := Hcb.out (.cells #[.string d, .int .i64 (dnum r 0), .int .i64 (dnum r 1), .int .i64 (dnum r 2), .int .i64 (dnum r 3), .int .i64 (dnum r 4), .slice (some a) z (c - 60), .int .i64 0] 92)
 have hbl := hbut.to hK0 (by omega)
 have hsz := hbut.size
 by_cases hm : s.cnt + 1 = 1 ∨ (s.cnt + 1 = 2 ∧ x.hasMap = true)
 · refine (addTable_ok _ (Hg.out _ hbl) B K0 x T tn tc _ hcol hm (some a) z (c - 60) (pdata r) (Hrd.out.below hbl) hK0 (by omega) hpc).mono ?_
   rintro e w2 ⟨rfl, hcol2, hbut2⟩
   go_wp2_with fail
   go_ret
   have hE2 : stepE s r = entsE (pdata r) := by
     rw [HE.out]
     unfold entsE
     by_cases hgd : good (pdata r) = true
     · rw [if_pos ⟨Hm.out.2 hm, hgd⟩, if_pos hgd]
     · rw [if_neg (fun q => hgd q.2), if_neg hgd]
   have hbA := hbut.trans hbut2
   refine ⟨by rw [hE2]; rfl, Ch.but hbA, fun h => ?_⟩
   obtain ⟨q1, q2⟩ := HS.out h
   refine ⟨x, some a, z, c - 60, ⟨by rw [q1]; exact hcol2, HI.out.own.but hbA hK1, by rw [q2]; exact HI.out.is, by rw [q2]; exact Hrd.out.below (hbA.to hK0 (by omega)), by omega, hpc⟩⟩
 · refine (addTable_bad _ B x T tn tc _ hcol hm _).mono ?_
   rintro e w2 ⟨rfl, rfl⟩
   go_wp2_with fail
   go_ret
   have hE7 : stepE s r = 7 := by rw [HE.out, if_neg (fun q => hm (Hm.out.1 q.1))]
   exact ⟨by rw [hE7]; rfl, Ch.but hbut, fun h => absurd (hE7.symm.trans h) (by decide)⟩

theorem dname_size (r : List UInt8) : (dname r).size ≤ 16 := by
 unfold dname
 split
 · exact nm_size r
 · decide

set_option maxRecDepth 100000 in
set_option maxHeartbeats 2000000 in
theorem add_mem (W : World) (B K0 K1 : Nat) (hg : ∀ V, Below K0 W V → Gnd V) (s : St) (hs : Ok s) (x : Arc) (T : Option Addr) (tn tc : Nat) (hI : Inv W K0 K1 B s x T tn tc) (hcnt : s.cnt ≤ 100000) (hK0 : K0 ≤ B) (hK1 : B < K1) (hK2 : K1 ≤ W.heap.size) (at_ : Nat) (b o n c : Nat) (r : List UInt8)
   (hr : Rd W K0 (some ⟨b, o, none⟩) n r) (hnc : n ≤ c) (hn : n < 100000) (hp : perr r = 0) (hn1 : dname r ≠ nmMap) (hn2 : dname r ≠ nmTab) :
   Calls Tryz.prog 35 #[.pointer (some ⟨B, 0, none⟩), .int .i64 (at_ : Int), partV (some ⟨b, o, none⟩) c r] W (Adds K0 K1 B s at_ r W) := by
 have HE : Hid (stepE s r = re (pname s r)) := hid (stepE_mem hp hn1 hn2)
 have HS : Hid (stepE s r = 0 → (stepS s at_ r).cnt = s.cnt + 1 ∧ stepS s at_ r = { s with mems := s.mems ++ [⟨rs (pname s r), dnum r 0, dnum r 1, dnum r 2, dnum r 3, pdata r⟩], offs := s.offs ++ [(at_ : Int)] }) := hid fun h => ⟨(step_ok (a := at_) hs h).2, by unfold stepS; rw [if_neg hn1, if_neg hn2]⟩
 obtain ⟨⟨a, ha⟩, hrd, hpn, hpc⟩ := data_at hr hnc hp
 rw [ha] at hrd
 obtain ⟨c0, c1, c2, c3, c4, c5, hf, hB⟩ := hI.col.cells
 have hb1 := name_no map_list hn1
 have hb2 := name_no tab_list hn2
 rw [partV_ok hp, ha, psz_int]
 have Hcb := hid (fun ob => counted hI ob hB)
 have Hrd := hid hrd
 have HI := hid hI
 have Hg := hid hg
 have hd16 := dname_size r
 have hml : s.mems.length ≤ s.cnt := by unfold St.cnt; omega
 obtain ⟨hl1, hl2⟩ := hI.lens hs
 have HN : Hid (pname s r = resv (bts (dname r)) (s.tbl.getD [])) := hid rfl
 clear hr hrd hI hn1 hn2 hp hg
 generalize pname s r = pn at *
 generalize dname r = d at *
 generalize psz r = z at *
 go_enter Tryz.func35, Tryz.ntmps35
 go_wp2_with fail
 obtain ⟨hcol, hbut⟩ := Hcb.out (.cells #[.string d, .int .i64 (dnum r 0), .int .i64 (dnum r 1), .int .i64 (dnum r 2), .int .i64 (dnum r 3), .int .i64 (z : Int), .slice (some a) z (c - 60), .int .i64 0] 92)
 have hbl := hbut.to hK0 (by omega)
 have hsz := hbut.size
 cases hpn' : pn with
 | none =>
   rw [hpn'] at HN HE
   refine (addMember_bad _ (Hg.out _ hbl) B K0 x T tn tc _ hcol (s.tbl.getD []) (HI.out.tab.below hbl) (by omega) HI.out.small HI.out.cap at_ d (dnum r 0) (dnum r 1) (dnum r 2) (dnum r 3) z a z (c - 60) (by omega) HN.out.symm).mono ?_
   rintro e w2 ⟨rfl, hb2⟩
   go_wp2_with fail
   go_ret
   have hE6 : stepE s r = 6 := HE.out
   exact ⟨by rw [hE6]; rfl, (Ch.but hbut).trans (Ch.below hb2), fun h => absurd (hE6.symm.trans h) (by decide)⟩
 | some q =>
   rw [hpn'] at HN HE HS
   refine (addMember_ok _ (Hg.out _ hbl) B K0 K1 x T tn tc _ hcol (s.tbl.getD []) (HI.out.tab.below hbl) hK0 hK1 (by omega) HI.out.small HI.out.cap at_ (HI.out.own.but hbut hK1) (by omega) (by omega) d (dnum r 0) (dnum r 1) (dnum r 2) (dnum r 3) z a z (c - 60) (pdata r) (Hrd.out.below hbl) (by omega) (by omega) q HN.out.symm).mono ?_
   rintro e w2 ⟨rfl, D, k, ap, op, ac, oc, hcol2, hown2, hch2⟩
   go_wp2_with fail
   go_ret
   have hE0 : stepE s r = 0 := HE.out
   have hchA := (Ch.but hbut).trans hch2
   refine ⟨by rw [hE0]; rfl, hchA, fun h => ?_⟩
   obtain ⟨q1, q2⟩ := HS.out h
   refine ⟨_, T, tn, tc, ⟨by rw [q1]; exact hcol2, hown2, ?_, ?_, HI.out.small, HI.out.cap⟩⟩
   · rw [q2]
     obtain ⟨i1, i2, i3, i4⟩ := HI.out.is
     exact ⟨i1, i2, by rw [← i3]; simp [mem1, Mem.pure, rs], by rw [← i4]⟩
   · rw [q2]; exact HI.out.tab.below (hchA.to (by omega) hK0 (by omega))

theorem add_any (W : World) (B K0 K1 : Nat) (hg : ∀ V, Below K0 W V → Gnd V) (s : St) (hs : Ok s) (x : Arc) (T : Option Addr) (tn tc : Nat) (hI : Inv W K0 K1 B s x T tn tc) (hcnt : s.cnt ≤ 100000) (hK0 : K0 ≤ B) (hK1 : B < K1) (hK2 : K1 ≤ W.heap.size) (at_ : Nat) (b o n c : Nat) (r : List UInt8)
   (hr : Rd W K0 (some ⟨b, o, none⟩) n r) (hnc : n ≤ c) (hn : n < 100000) :
   Calls Tryz.prog 35 #[.pointer (some ⟨B, 0, none⟩), .int .i64 (at_ : Int), partV (some ⟨b, o, none⟩) c r] W (Adds K0 K1 B s at_ r W) := by
 by_cases hp : perr r = 0
 · by_cases h1 : dname r = nmMap
   · exact add_map W B K0 K1 s hs x T tn tc hI hcnt hK0 hK1 hK2 at_ b o n c r hr hnc hn hp h1
   · by_cases h2 : dname r = nmTab
     · exact add_tab W B K0 K1 hg s hs x T tn tc hI hcnt hK0 hK1 hK2 at_ b o n c r hr hnc hn hp h2
     · exact add_mem W B K0 K1 hg s hs x T tn tc hI hcnt hK0 hK1 hK2 at_ b o n c r hr hnc hn hp h1 h2
 · exact add_bad W B K0 K1 s at_ _ c r hp
end Go.Proofs.YtjobmkodgodloaaGreatDoor.Arp

namespace Go.Proofs.YtjobmkodgodloaaGreatDoor.Arp
open Go.RowKit Go.Proofs Go.Proofs.YtjobmkodgodloaaGreatDoor.Byt Go.Proofs.YtjobmkodgodloaaGreatDoor.Dec Go.Proofs.YtjobmkodgodloaaGreatDoor.Lnm

theorem isAr_prefix (l : List UInt8) : Lib.hasPrefix l magic = isAr l := by
 unfold Lib.hasPrefix isAr
 rw [Bool.eq_iff_iff, List.isPrefixOf_iff_prefix, List.prefix_iff_eq_take]
 simp only [Bool.and_eq_true, decide_eq_true_eq, beq_iff_eq]
 have hm : magic.length = 8 := rfl
 rw [hm]
 constructor
 · intro h
   refine ⟨?_, h.symm⟩
   have := congrArg List.length h
   rw [hm, List.length_take] at this
   omega
 · exact fun h => h.2.symm

set_option maxRecDepth 100000 in
set_option maxHeartbeats 1000000 in
theorem is_any (K : Nat) (A : Option Addr) (n c : Nat) (l : List UInt8) (w : World) (hr : Rd w K A n l) (hK : K ≤ w.heap.size) (hc : n ≤ c) :
   Calls Tryz.prog 33 #[.slice A n c] w fun e w' => e = .returned (.bool (isAr l)) ∧ Below w.heap.size w w' := by
 have Hl := hid hr.1
 have Hb := hid (hr.more hK)
 have Hp := hid (isAr_prefix l)
 clear hr
 go_enter Tryz.func33, Tryz.ntmps33
 have kc := Lib.run_convert_bytes_const (P := Tryz.prog) w 22 5 #[.int .u8 33, .int .u8 60, .int .u8 97, .int .u8 114, .int .u8 99, .int .u8 104, .int .u8 62, .int .u8 10] 8 8 Tryz.underlying22 Tryz.underlying5
 go_wp2_with fail
 have hb := (Below.refl w.heap.size w).alloc (Nat.le_refl _) (.cells #[.int .u8 33, .int .u8 60, .int .u8 97, .int .u8 114, .int .u8 99, .int .u8 104, .int .u8 62, .int .u8 10] 5 (8, 9))
 have hm := Rd.lit w magic #[.int .u8 33, .int .u8 60, .int .u8 97, .int .u8 114, .int .u8 99, .int .u8 104, .int .u8 62, .int .u8 10] rfl 8 rfl (8, 9)
 refine (Tryz.bytes_HasPrefix_all A (some ⟨w.heap.size, 0, none⟩) n c 8 8 (nums l) (nums magic) _ (by rw [nums_length]; exact Hl.out) rfl hc (Rd.bytesIn (Hb.out.below hb)) (Rd.bytesIn hm)).mono ?_
 rintro e w2 ⟨rfl, rfl⟩
 rw [nums_bytes, nums_bytes, Hp.out]
 clear kc
 go_wp2_with fail
 go_ret
 exact ⟨rfl, hb⟩
end Go.Proofs.YtjobmkodgodloaaGreatDoor.Arp
