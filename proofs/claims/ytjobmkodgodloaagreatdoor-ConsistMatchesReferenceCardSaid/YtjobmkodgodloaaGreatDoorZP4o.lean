/-
  arparse: paddedSize, firstPart.
-/
import Derived.Test.YtjobmkodgodloaaGreatDoorZMk
import Derived.Test.YtjobmkodgodloaaGreatDoorZHdk
import Derived.BigQuiet
namespace Go.Proofs.YtjobmkodgodloaaGreatDoor.Arp
open Go.RowKit Go.Proofs Go.Proofs.YtjobmkodgodloaaGreatDoor.Byt Go.Proofs.YtjobmkodgodloaaGreatDoor.Dec Go.Proofs.YtjobmkodgodloaaGreatDoor.Lnm Go.Proofs.YtjobmkodgodloaaGreatDoor.Hdr

def cutp (A : Option Addr) (c k : Nat) : Option Addr := if c = k then A else A.map fun a => ⟨a.block, a.off + k, none⟩
theorem cutp_at (b o c k : Nat) (h : c ≠ k) : cutp (some ⟨b, o, none⟩) c k = some ⟨b, o + k, none⟩ := if_neg h
theorem cutp_end (A : Option Addr) (k : Nat) : cutp A k k = A := if_pos rfl
theorem rd_cutp {w : World} {K n c k : Nat} {A : Option Addr} {l : List UInt8} (h : Rd w K A n l) (hc : n ≤ c) : Rd w K (cutp A c k) (n - k) (l.drop k) := by
 by_cases e : c = k
 · subst e
   exact h.cut_at (B := cutp A c c) c hc
 · by_cases hk : n ≤ k
   · exact h.cut_at k hk
   · obtain ⟨b, o, rfl, _⟩ := Rd_where h (by omega)
     rw [cutp_at b o c k e]
     exact h.cut k

theorem padded_any (k : Nat) (hk : k < 1000000000000) (w : World) :
   Calls Tryz.prog 57 #[.int .i64 (k : Int)] w fun e w' => e = .returned (.int .i64 ((pad k : Nat) : Int)) ∧ w' = w := by
 have e : (k : Int) + (k : Int) % 2 = ((pad k : Nat) : Int) := by unfold pad; omega
 go_enter Tryz.func57, Tryz.ntmps57
 go_wp2_with fail
 go_ret
 exact ⟨by rw [← e]; rfl, rfl⟩

def partV (A : Option Addr) (c : Nat) (r : List UInt8) : Value :=
 if perr r = 0 then .agg #[.string (dname r), .int .i64 (dnum r 0), .int .i64 (dnum r 1), .int .i64 (dnum r 2), .int .i64 (dnum r 3), .int .i64 (dnum r 4), .slice (cutp A c 60) (psz r) (c - 60), .int .i64 0]
 else .agg #[.string ⟨#[]⟩, .int .i64 0, .int .i64 0, .int .i64 0, .int .i64 0, .int .i64 0, .slice none 0 0, .int .i64 (perr r)]
theorem partV_ok {A : Option Addr} {c : Nat} {r : List UInt8} (h : perr r = 0) : partV A c r = .agg #[.string (dname r), .int .i64 (dnum r 0), .int .i64 (dnum r 1), .int .i64 (dnum r 2), .int .i64 (dnum r 3), .int .i64 (dnum r 4), .slice (cutp A c 60) (psz r) (c - 60), .int .i64 0] := if_pos h
theorem partV_bad {A : Option Addr} {c : Nat} {r : List UInt8} {k : Int} (h : perr r = k) (hk : k ≠ 0) : partV A c r = .agg #[.string ⟨#[]⟩, .int .i64 0, .int .i64 0, .int .i64 0, .int .i64 0, .int .i64 0, .slice none 0 0, .int .i64 k] := by
 unfold partV; rw [if_neg (by rw [h]; exact hk), h]

theorem eight (w : World) (B : Nat) (a0 a1 a2 a3 a4 a5 a6 a7 : Value) (t : TypeId) (h : w.heap[B]? = some (.cells #[a0, a1, a2, a3, a4, a5, a6, a7] t (0, 0))) (x0 x1 x2 x3 x4 x5 x6 x7 : Value) :
   ((((((((w.setCell ⟨B, 0, none⟩ x0).setCell ⟨B, 1, none⟩ x1).setCell ⟨B, 2, none⟩ x2).setCell ⟨B, 3, none⟩ x3).setCell ⟨B, 4, none⟩ x4).setCell ⟨B, 5, none⟩ x5).setCell ⟨B, 6, none⟩ x6).setCell ⟨B, 7, none⟩ x7).heap[B]? = some (.cells #[x0, x1, x2, x3, x4, x5, x6, x7] t (0, 0)) := by
 have h0 : (w.setCell ⟨B, 0, none⟩ x0).heap[B]? = some (.cells #[x0, a1, a2, a3, a4, a5, a6, a7] t (0, 0)) := heap_setCell_same w B 0 _ t x0 h
 have h1 : ((w.setCell ⟨B, 0, none⟩ x0).setCell ⟨B, 1, none⟩ x1).heap[B]? = some (.cells #[x0, x1, a2, a3, a4, a5, a6, a7] t (0, 0)) := heap_setCell_same _ B 1 _ t x1 h0
 generalize (w.setCell ⟨B, 0, none⟩ x0).setCell ⟨B, 1, none⟩ x1 = w1 at *
 have h2 : (w1.setCell ⟨B, 2, none⟩ x2).heap[B]? = some (.cells #[x0, x1, x2, a3, a4, a5, a6, a7] t (0, 0)) := heap_setCell_same _ B 2 _ t x2 h1
 have h3 : ((w1.setCell ⟨B, 2, none⟩ x2).setCell ⟨B, 3, none⟩ x3).heap[B]? = some (.cells #[x0, x1, x2, x3, a4, a5, a6, a7] t (0, 0)) := heap_setCell_same _ B 3 _ t x3 h2
 generalize (w1.setCell ⟨B, 2, none⟩ x2).setCell ⟨B, 3, none⟩ x3 = w2 at *
 have h4 : (w2.setCell ⟨B, 4, none⟩ x4).heap[B]? = some (.cells #[x0, x1, x2, x3, x4, a5, a6, a7] t (0, 0)) := heap_setCell_same _ B 4 _ t x4 h3
 have h5 : ((w2.setCell ⟨B, 4, none⟩ x4).setCell ⟨B, 5, none⟩ x5).heap[B]? = some (.cells #[x0, x1, x2, x3, x4, x5, a6, a7] t (0, 0)) := heap_setCell_same _ B 5 _ t x5 h4
 generalize (w2.setCell ⟨B, 4, none⟩ x4).setCell ⟨B, 5, none⟩ x5 = w3 at *
 have h6 : (w3.setCell ⟨B, 6, none⟩ x6).heap[B]? = some (.cells #[x0, x1, x2, x3, x4, x5, x6, a7] t (0, 0)) := heap_setCell_same _ B 6 _ t x6 h5
 exact heap_setCell_same _ B 7 _ t x7 h6
theorem eight_below {w0 w : World} {B K : Nat} (h : Below K w0 w) (hB : K ≤ B) (x0 x1 x2 x3 x4 x5 x6 x7 : Value) :
   Below K w0 ((((((((w.setCell ⟨B, 0, none⟩ x0).setCell ⟨B, 1, none⟩ x1).setCell ⟨B, 2, none⟩ x2).setCell ⟨B, 3, none⟩ x3).setCell ⟨B, 4, none⟩ x4).setCell ⟨B, 5, none⟩ x5).setCell ⟨B, 6, none⟩ x6).setCell ⟨B, 7, none⟩ x7) :=
 ((((((((h.setCell (p := ⟨B, 0, none⟩) hB x0).setCell (p := ⟨B, 1, none⟩) hB x1).setCell (p := ⟨B, 2, none⟩) hB x2).setCell (p := ⟨B, 3, none⟩) hB x3).setCell (p := ⟨B, 4, none⟩) hB x4).setCell (p := ⟨B, 5, none⟩) hB x5).setCell (p := ⟨B, 6, none⟩) hB x6).setCell (p := ⟨B, 7, none⟩) hB x7)
theorem load_eight (w : World) (B : Nat) (cs : Array Value) (h : w.heap[B]? = some (.cells cs 92 (0, 0))) (hs : cs.size = 8) :
   (loadVar 92 ⟨B, 0, none⟩).run Tryz.prog w = .ok (.agg cs) w :=
 run_loadVar_row w B 92 92 cs (0, 0) _ h Tryz.underlying92 rfl (by rw [hs]; kernel_rfl)

theorem load_eight_d (w : World) (B : Nat) (cs : Array Value) (h : w.heap[B]? = some (.cells cs 92 (0, 0))) (hs : cs.size = 8) :
   (loadVar 92 ⟨B, 0, none⟩).run Tryz.prog w.drew = .ok (.agg cs) w.drew := load_eight w.drew B cs h hs
theorem load_eight_dd (w : World) (B : Nat) (cs : Array Value) (h : w.heap[B]? = some (.cells cs 92 (0, 0))) (hs : cs.size = 8) :
   (loadVar 92 ⟨B, 0, none⟩).run Tryz.prog w.drew.drew = .ok (.agg cs) w.drew.drew := load_eight w.drew.drew B cs h hs
theorem fin8 {w w1 : World} {B : Nat} (hh : w1.heap[B]? = some (.cells #[.string ⟨#[]⟩, .int .i64 0, .int .i64 0, .int .i64 0, .int .i64 0, .int .i64 0, .slice none 0 0, .int .i64 0] 92 (0, 0))) (hb : Below B w w1) (o : Obj) (x0 x1 x2 x3 x4 x5 x6 x7 : Value) :
   ((loadVar 92 ⟨B, 0, none⟩).run Tryz.prog (((((((((w1.setCell ⟨B, 0, none⟩ x0).setCell ⟨B, 1, none⟩ x1).setCell ⟨B, 2, none⟩ x2).setCell ⟨B, 3, none⟩ x3).setCell ⟨B, 4, none⟩ x4).setCell ⟨B, 5, none⟩ x5).setCell ⟨B, 6, none⟩ x6).setCell ⟨B, 7, none⟩ x7).alloc o) =
     .ok (.agg #[x0, x1, x2, x3, x4, x5, x6, x7]) (((((((((w1.setCell ⟨B, 0, none⟩ x0).setCell ⟨B, 1, none⟩ x1).setCell ⟨B, 2, none⟩ x2).setCell ⟨B, 3, none⟩ x3).setCell ⟨B, 4, none⟩ x4).setCell ⟨B, 5, none⟩ x5).setCell ⟨B, 6, none⟩ x6).setCell ⟨B, 7, none⟩ x7).alloc o)) ∧
   Below B w (((((((((w1.setCell ⟨B, 0, none⟩ x0).setCell ⟨B, 1, none⟩ x1).setCell ⟨B, 2, none⟩ x2).setCell ⟨B, 3, none⟩ x3).setCell ⟨B, 4, none⟩ x4).setCell ⟨B, 5, none⟩ x5).setCell ⟨B, 6, none⟩ x6).setCell ⟨B, 7, none⟩ x7).alloc o) := by
 have h8 := eight w1 B _ _ _ _ _ _ _ _ 92 hh x0 x1 x2 x3 x4 x5 x6 x7
 have hB := (Array.getElem?_eq_some_iff.1 h8).1
 exact ⟨load_eight _ B _ ((Below.heap_alloc _ _ _ hB).trans h8) rfl, (eight_below hb (Nat.le_refl _) _ _ _ _ _ _ _ _).alloc (Nat.le_of_lt hB) _⟩

theorem fin8d {w w1 : World} {B : Nat} (hh : w1.heap[B]? = some (.cells #[.string ⟨#[]⟩, .int .i64 0, .int .i64 0, .int .i64 0, .int .i64 0, .int .i64 0, .slice none 0 0, .int .i64 0] 92 (0, 0))) (hb : Below B w w1) (o : Obj) (x0 x1 x2 x3 x4 x5 x6 x7 : Value) :
   ((loadVar 92 ⟨B, 0, none⟩).run Tryz.prog (((((((((w1.setCell ⟨B, 0, none⟩ x0).setCell ⟨B, 1, none⟩ x1).setCell ⟨B, 2, none⟩ x2).setCell ⟨B, 3, none⟩ x3).setCell ⟨B, 4, none⟩ x4).setCell ⟨B, 5, none⟩ x5).setCell ⟨B, 6, none⟩ x6).setCell ⟨B, 7, none⟩ x7).alloc o).drew =
     .ok (.agg #[x0, x1, x2, x3, x4, x5, x6, x7]) (((((((((w1.setCell ⟨B, 0, none⟩ x0).setCell ⟨B, 1, none⟩ x1).setCell ⟨B, 2, none⟩ x2).setCell ⟨B, 3, none⟩ x3).setCell ⟨B, 4, none⟩ x4).setCell ⟨B, 5, none⟩ x5).setCell ⟨B, 6, none⟩ x6).setCell ⟨B, 7, none⟩ x7).alloc o).drew) ∧
   Below B w (((((((((w1.setCell ⟨B, 0, none⟩ x0).setCell ⟨B, 1, none⟩ x1).setCell ⟨B, 2, none⟩ x2).setCell ⟨B, 3, none⟩ x3).setCell ⟨B, 4, none⟩ x4).setCell ⟨B, 5, none⟩ x5).setCell ⟨B, 6, none⟩ x6).setCell ⟨B, 7, none⟩ x7).alloc o).drew := by
 obtain ⟨_, h2⟩ := fin8 hh hb o x0 x1 x2 x3 x4 x5 x6 x7
 have h8 := eight w1 B _ _ _ _ _ _ _ _ 92 hh x0 x1 x2 x3 x4 x5 x6 x7
 have hA := (Below.heap_alloc _ o _ (Array.getElem?_eq_some_iff.1 h8).1).trans h8
 clear h8
 generalize ((((((((w1.setCell ⟨B, 0, none⟩ x0).setCell ⟨B, 1, none⟩ x1).setCell ⟨B, 2, none⟩ x2).setCell ⟨B, 3, none⟩ x3).setCell ⟨B, 4, none⟩ x4).setCell ⟨B, 5, none⟩ x5).setCell ⟨B, 6, none⟩ x6).setCell ⟨B, 7, none⟩ x7).alloc o = W at *
 exact ⟨load_eight_d W B _ hA rfl, h2.drew⟩

theorem fin8dd {w w1 : World} {B : Nat} (hh : w1.heap[B]? = some (.cells #[.string ⟨#[]⟩, .int .i64 0, .int .i64 0, .int .i64 0, .int .i64 0, .int .i64 0, .slice none 0 0, .int .i64 0] 92 (0, 0))) (hb : Below B w w1) (o : Obj) (x0 x1 x2 x3 x4 x5 x6 x7 : Value) :
   ((loadVar 92 ⟨B, 0, none⟩).run Tryz.prog (((((((((w1.setCell ⟨B, 0, none⟩ x0).setCell ⟨B, 1, none⟩ x1).setCell ⟨B, 2, none⟩ x2).setCell ⟨B, 3, none⟩ x3).setCell ⟨B, 4, none⟩ x4).setCell ⟨B, 5, none⟩ x5).setCell ⟨B, 6, none⟩ x6).setCell ⟨B, 7, none⟩ x7).alloc o).drew.drew =
     .ok (.agg #[x0, x1, x2, x3, x4, x5, x6, x7]) (((((((((w1.setCell ⟨B, 0, none⟩ x0).setCell ⟨B, 1, none⟩ x1).setCell ⟨B, 2, none⟩ x2).setCell ⟨B, 3, none⟩ x3).setCell ⟨B, 4, none⟩ x4).setCell ⟨B, 5, none⟩ x5).setCell ⟨B, 6, none⟩ x6).setCell ⟨B, 7, none⟩ x7).alloc o).drew.drew) ∧
   Below B w (((((((((w1.setCell ⟨B, 0, none⟩ x0).setCell ⟨B, 1, none⟩ x1).setCell ⟨B, 2, none⟩ x2).setCell ⟨B, 3, none⟩ x3).setCell ⟨B, 4, none⟩ x4).setCell ⟨B, 5, none⟩ x5).setCell ⟨B, 6, none⟩ x6).setCell ⟨B, 7, none⟩ x7).alloc o).drew.drew := by
 obtain ⟨_, h2⟩ := fin8 hh hb o x0 x1 x2 x3 x4 x5 x6 x7
 have h8 := eight w1 B _ _ _ _ _ _ _ _ 92 hh x0 x1 x2 x3 x4 x5 x6 x7
 have hA := (Below.heap_alloc _ o _ (Array.getElem?_eq_some_iff.1 h8).1).trans h8
 clear h8
 generalize ((((((((w1.setCell ⟨B, 0, none⟩ x0).setCell ⟨B, 1, none⟩ x1).setCell ⟨B, 2, none⟩ x2).setCell ⟨B, 3, none⟩ x3).setCell ⟨B, 4, none⟩ x4).setCell ⟨B, 5, none⟩ x5).setCell ⟨B, 6, none⟩ x6).setCell ⟨B, 7, none⟩ x7).alloc o = W at *
 exact ⟨load_eight_dd W B _ hA rfl, h2.drew.drew⟩

set_option maxRecDepth 100000 in
set_option maxHeartbeats 2000000 in
theorem firstPart_dec (K : Nat) (A : Option Addr) (n c : Nat) (l : List UInt8) (w : World) (hr : Rd w K A n l) (hK : K ≤ w.heap.size) (hc : n ≤ c) (h : derr l ≠ 0) :
   Calls Tryz.prog 56 #[.slice A n c] w fun e w' => e = .returned (partV A c l) ∧ Below w.heap.size w w' := by
 have Hp := hid (partV_bad (A := A) (c := c) (perr_dec h) h)
 have hb0 : Below w.heap.size w (w.alloc (.cells #[.string ⟨#[]⟩, .int .i64 0, .int .i64 0, .int .i64 0, .int .i64 0, .int .i64 0, .slice none 0 0, .int .i64 0] 92)) := (Below.refl _ _).alloc (Nat.le_refl _) _
 have hne : (derr l != 0) = true := by simpa using h
 go_enter Tryz.func56, Tryz.ntmps56
 go_wp2_with fail
 refine (decode_any K A n c l _ (hr.below (hb0.mono hK)) (by simp; omega) hc).mono ?_
 rintro e w1 ⟨rfl, hb1⟩
 have k2 := stays (B := w.heap.size) hb1 (by simp)
 have f2 := staysf (B := w.heap.size) hb1 (by simp)
 have hh : w1.heap[w.heap.size]? = some (.cells #[.string ⟨#[]⟩, .int .i64 0, .int .i64 0, .int .i64 0, .int .i64 0, .int .i64 0, .slice none 0 0, .int .i64 0] 92 (0, 0)) := by
   rw [hb1.block _ (by simp)]; exact heap_alloc_new w _
 have hb2 := hid (hb0.trans (hb1.mono hb0.size))
 have hs1 : w.heap.size < w1.heap.size := by have := hb1.size; simp at this; omega
 clear hb0 hb1 hr
 go_wp2_with fail
 obtain ⟨hl, hbE⟩ := fin8 hh hb2.out (.cells #[.string (dname l), .int .i64 (dnum l 0), .int .i64 (dnum l 1), .int .i64 (dnum l 2), .int .i64 (dnum l 3), .int .i64 (dnum l 4)] 90) (.string ⟨#[]⟩) (.int .i64 0) (.int .i64 0) (.int .i64 0) (.int .i64 0) (.int .i64 0) (.slice none 0 0) (.int .i64 (derr l))
 exact bodyPost_ret (v := .agg #[.string ⟨#[]⟩, .int .i64 0, .int .i64 0, .int .i64 0, .int .i64 0, .int .i64 0, .slice none 0 0, .int .i64 (derr l)]) (by simp [results, Tryz.results56, asAddr, hl]) rfl ⟨by rw [Hp.out], hbE⟩

set_option maxRecDepth 100000 in
set_option maxHeartbeats 2000000 in
theorem firstPart_short (K b o : Nat) (n c : Nat) (l : List UInt8) (w : World) (hr : Rd w K (some ⟨b, o, none⟩) n l) (hK : K ≤ w.heap.size) (hc : n ≤ c) (h : derr l = 0) (h2 : l.length < plen l) :
   Calls Tryz.prog 56 #[.slice (some ⟨b, o, none⟩) n c] w fun e w' => e = .returned (partV (some ⟨b, o, none⟩) c l) ∧ Below w.heap.size w w' := by
 have Hp := hid (partV_bad (A := (some ⟨b, o, none⟩)) (c := c) (perr_2 h h2) (by decide))
 have h60 := (derr_ok h).1
 have hl := hr.1
 have hn60 : 60 ≤ n := by omega
 have hsz := psz_lt l
 have hlt : ((n - 60 : Nat) : Int) < ((pad (psz l) : Nat) : Int) := by unfold plen at h2; omega
 clear h2 h60 hl
 have hb0 : Below w.heap.size w (w.alloc (.cells #[.string ⟨#[]⟩, .int .i64 0, .int .i64 0, .int .i64 0, .int .i64 0, .int .i64 0, .slice none 0 0, .int .i64 0] 92)) := (Below.refl _ _).alloc (Nat.le_refl _) _
 go_enter Tryz.func56, Tryz.ntmps56
 go_wp2_with fail
 refine (decode_any K _ n c l _ (hr.below (hb0.mono hK)) (by simp; omega) hc).mono ?_
 rintro e w1 ⟨rfl, hb1⟩
 rw [h, psz_int l]
 have k2 := stays (B := w.heap.size) hb1 (by simp)
 have f2 := staysf (B := w.heap.size) hb1 (by simp)
 have hh : w1.heap[w.heap.size]? = some (.cells #[.string ⟨#[]⟩, .int .i64 0, .int .i64 0, .int .i64 0, .int .i64 0, .int .i64 0, .slice none 0 0, .int .i64 0] 92 (0, 0)) := by
   rw [hb1.block _ (by simp)]; exact heap_alloc_new w _
 have Hf := hid (fin8 hh (hb0.trans (hb1.mono hb0.size)) (.cells #[.string (dname l), .int .i64 (dnum l 0), .int .i64 (dnum l 1), .int .i64 (dnum l 2), .int .i64 (dnum l 3), .int .i64 (psz l)] 90) (.string ⟨#[]⟩) (.int .i64 0) (.int .i64 0) (.int .i64 0) (.int .i64 0) (.int .i64 0) (.slice none 0 0) (.int .i64 2))
 have hs1 : w.heap.size < w1.heap.size := by have := hb1.size; simp at this; omega
 clear hb0 hb1 hr
 by_cases hck : c = 60
 · obtain rfl : n = 60 := by omega
   subst hck
   go_wp2_with fail
   refine (padded_any _ hsz _).mono ?_
   rintro e w2 ⟨rfl, rfl⟩
   go_wp2_with fail
   obtain ⟨hl, hbE⟩ := Hf.out
   exact bodyPost_ret (v := .agg #[.string ⟨#[]⟩, .int .i64 0, .int .i64 0, .int .i64 0, .int .i64 0, .int .i64 0, .slice none 0 0, .int .i64 2]) (by simp [results, Tryz.results56, asAddr, hl]) rfl ⟨by rw [Hp.out], hbE⟩
 · go_wp2_with fail
   refine (padded_any _ hsz _).mono ?_
   rintro e w2 ⟨rfl, rfl⟩
   go_wp2_with fail
   obtain ⟨hl, hbE⟩ := Hf.out
   exact bodyPost_ret (v := .agg #[.string ⟨#[]⟩, .int .i64 0, .int .i64 0, .int .i64 0, .int .i64 0, .int .i64 0, .slice none 0 0, .int .i64 2]) (by simp [results, Tryz.results56, asAddr, hl]) rfl ⟨by rw [Hp.out], hbE⟩

set_option maxRecDepth 100000 in
set_option maxHeartbeats 4000000 in
theorem firstPart_pad (K b o : Nat) (n c : Nat) (l : List UInt8) (w : World) (hr : Rd w K (some ⟨b, o, none⟩) n l) (hK : K ≤ w.heap.size) (hc : n ≤ c) (h : derr l = 0) (h2 : plen l ≤ l.length) (h3 : psz l % 2 = 1 ∧ l[60 + psz l]? ≠ some 10) :
   Calls Tryz.prog 56 #[.slice (some ⟨b, o, none⟩) n c] w fun e w' => e = .returned (partV (some ⟨b, o, none⟩) c l) ∧ Below w.heap.size w w' := by
 have Hp := hid (partV_bad (A := (some ⟨b, o, none⟩)) (c := c) (perr_5 h h2 h3) (by decide))
 have h60 := (derr_ok h).1
 have hl := hr.1
 have hn60 : 60 ≤ n := by omega
 have hsz := psz_lt l
 have hpl : 60 + psz l + 1 ≤ n := by unfold plen pad at h2; omega
 have hnlt : ¬ ((n - 60 : Nat) : Int) < ((pad (psz l) : Nat) : Int) := by unfold plen at h2; omega
 have hne : (((psz l : Nat) : Int) != ((pad (psz l) : Nat) : Int)) = true := by
   rw [bne_iff_ne]
   unfold pad
   omega
 have hi : 60 + psz l < l.length := by omega
 have hx : (((l[60 + psz l].toNat : Int)) != 10) = true := by
   rw [bne_iff_ne]
   intro e
   apply h3.2
   rw [List.getElem?_eq_getElem hi]
   congr 1
   exact UInt8.toNat_inj.1 (by have h10 : (10 : UInt8).toNat = 10 := rfl; omega)
 obtain ⟨b', o', e, hbK, hcell⟩ := hr.2 (60 + psz l) hi
 injection e with e
 injection e with e1 e2
 subst e1 e2
 have hps : psz l < n - 60 := by omega
 clear h2 h60 hl h3
 have hb0 : Below w.heap.size w (w.alloc (.cells #[.string ⟨#[]⟩, .int .i64 0, .int .i64 0, .int .i64 0, .int .i64 0, .int .i64 0, .slice none 0 0, .int .i64 0] 92)) := (Below.refl _ _).alloc (Nat.le_refl _) _
 go_enter Tryz.func56, Tryz.ntmps56
 go_wp2_with fail
 refine (decode_any K _ n c l _ (hr.below (hb0.mono hK)) (by simp; omega) hc).mono ?_
 rintro e w1 ⟨rfl, hb1⟩
 rw [h, psz_int l]
 have k2 := stays (B := w.heap.size) hb1 (by simp)
 have f2 := staysf (B := w.heap.size) hb1 (by simp)
 have hh : w1.heap[w.heap.size]? = some (.cells #[.string ⟨#[]⟩, .int .i64 0, .int .i64 0, .int .i64 0, .int .i64 0, .int .i64 0, .slice none 0 0, .int .i64 0] 92 (0, 0)) := by
   rw [hb1.block _ (by simp)]; exact heap_alloc_new w _
 have hbw := hb0.trans (hb1.mono hb0.size)
 have Hf := hid (fin8d hh hbw (.cells #[.string (dname l), .int .i64 (dnum l 0), .int .i64 (dnum l 1), .int .i64 (dnum l 2), .int .i64 (dnum l 3), .int .i64 (psz l)] 90) (.string ⟨#[]⟩) (.int .i64 0) (.int .i64 0) (.int .i64 0) (.int .i64 0) (.int .i64 0) (.slice none 0 0) (.int .i64 5))
 have hs1 : w.heap.size < w1.heap.size := by have := hb1.size; simp at this; omega
 have hbs1 : b < w1.heap.size := by omega
 have hcl : w1.cell? ⟨b, o + (60 + psz l), none⟩ = some (.int .u8 (l[60 + psz l].toNat : Int)) := (hbw.cell (p := ⟨b, o + (60 + psz l), none⟩) (by show b < w.heap.size; omega)).trans hcell
 rw [← Nat.add_assoc] at hcl
 clear hb0 hb1 hr hcell hbw
 by_cases hck : c = 60
 · exfalso; omega
 · go_wp2_with fail
   refine (padded_any _ hsz _).mono ?_
   rintro e w2 ⟨rfl, rfl⟩
   go_wp2_with fail
   go_region_with (go_at_call 57; refine (padded_any _ hsz _).mono ?_; rintro e w3 ⟨rfl, rfl⟩)
   all_goals go_wp2_with fail
   all_goals (obtain ⟨hl, hbE⟩ := Hf.out)
   all_goals exact bodyPost_ret (v := .agg #[.string ⟨#[]⟩, .int .i64 0, .int .i64 0, .int .i64 0, .int .i64 0, .int .i64 0, .slice none 0 0, .int .i64 5]) (by simp [results, Tryz.results56, asAddr, hl]) rfl ⟨by rw [Hp.out], hbE⟩

end Go.Proofs.YtjobmkodgodloaaGreatDoor.Arp
