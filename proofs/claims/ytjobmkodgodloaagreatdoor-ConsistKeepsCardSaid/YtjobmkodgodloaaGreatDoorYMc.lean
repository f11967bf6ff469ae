/-
  What header.Decode gives: the plain mathematics. header.Decode: the errors before the fields. header.Decode: what a round needs, and what is in memory. Encoding and decoding undo each other: the plain mathematics.
-/
import Derived.Test.YtjobmkodgodloaaGreatDoorYMb
import Derived.Lib.TrimByte
import Derived.Laws.EntriesVeiled
import Derived.Deep.LoopGhost
namespace Go.Proofs.YtjobmkodgodloaaGreatDoor.Hdr
open Go.RowKit Go.Proofs Go.Proofs.YtjobmkodgodloaaGreatDoor.Byt Go.Proofs.YtjobmkodgodloaaGreatDoor.Str Go.Proofs.YtjobmkodgodloaaGreatDoor.Dec

def part (l : List UInt8) (k : Nat) : List UInt8 := (l.drop (off k)).take (wd k)
def rdF (tab : Bool) (k : Nat) (x : List UInt8) : Option Nat := if (mo k && tab) = true then (if spaces x = true then some 0 else none) else parse (bs k) x
def nm (l : List UInt8) : ByteArray := ⟨(Lib.trimRightB (l.take 16) 32).toArray⟩
theorem by_nm (l : List UInt8) : by_ (nm l) = Lib.trimRightB (l.take 16) 32 := rfl
theorem nm_size (l : List UInt8) : (nm l).size ≤ 16 := by
 rw [← by_length, by_nm]
 unfold Lib.trimRightB
 rw [List.length_reverse]
 have h1 := (List.dropWhile_sublist (· == (32 : UInt8)) (l := (l.take 16).reverse)).length_le
 rw [List.length_reverse, List.length_take] at h1
 omega

def allRd (l : List UInt8) : Nat → Bool
 | 0 => true
 | k + 1 => allRd l k && (rdF (isTab (nm l)) k (part l k)).isSome
theorem allRd_false {l : List UInt8} {k : Nat} (h : rdF (isTab (nm l)) k (part l k) = none) : ∀ j, k < j → allRd l j = false
 | 0, hj => by omega
 | j + 1, hj => by
   simp only [allRd]
   by_cases e : k = j
   · subst e; rw [h]; simp
   · rw [allRd_false h j (by omega)]; rfl
def derr (l : List UInt8) : Int :=
 if l.length < 60 then 2 else if (l.drop 58).take 2 ≠ [96, 10] then 4 else if nameOk (nm l) = false then 6 else if allRd l 5 = false then 3 else 0
def dname (l : List UInt8) : ByteArray := if derr l = 0 then nm l else ⟨#[]⟩
def dnum (l : List UInt8) (k : Nat) : Int := if derr l = 0 then (((rdF (isTab (nm l)) k (part l k)).getD 0 : Nat) : Int) else 0

theorem derr_2 {l : List UInt8} (h : l.length < 60) : derr l = 2 := if_pos h
theorem derr_4 {l : List UInt8} (h : 60 ≤ l.length) (h2 : (l.drop 58).take 2 ≠ [96, 10]) : derr l = 4 := by
 unfold derr; rw [if_neg (by omega), if_pos h2]
theorem derr_6 {l : List UInt8} (h : 60 ≤ l.length) (h2 : (l.drop 58).take 2 = [96, 10]) (h3 : nameOk (nm l) = false) : derr l = 6 := by
 unfold derr; rw [if_neg (by omega), if_neg (by simp [h2]), if_pos h3]
theorem derr_3 {l : List UInt8} (h : 60 ≤ l.length) (h2 : (l.drop 58).take 2 = [96, 10]) (h3 : nameOk (nm l) = true) (h4 : allRd l 5 = false) : derr l = 3 := by
 unfold derr; rw [if_neg (by omega), if_neg (by simp [h2]), if_neg (by simp [h3]), if_pos h4]
theorem derr_0 {l : List UInt8} (h : 60 ≤ l.length) (h2 : (l.drop 58).take 2 = [96, 10]) (h3 : nameOk (nm l) = true) (h4 : allRd l 5 = true) : derr l = 0 := by
 unfold derr; rw [if_neg (by omega), if_neg (by simp [h2]), if_neg (by simp [h3]), if_neg (by simp [h4])]

def Decodes (l : List UInt8) (w : World) (e : Ending) (w' : World) : Prop :=
 e = .returned (.tuple #[.agg #[.string (dname l), .int .i64 (dnum l 0), .int .i64 (dnum l 1), .int .i64 (dnum l 2), .int .i64 (dnum l 3), .int .i64 (dnum l 4)], .int .i64 (derr l)]) ∧ Below w.heap.size w w'
theorem Decodes.bad {l : List UInt8} {w w' : World} {k : Int} (h : derr l = k) (hk : k ≠ 0) (hb : Below w.heap.size w w') :
   Decodes l w (.returned (.tuple #[.agg #[.string ⟨#[]⟩, .int .i64 0, .int .i64 0, .int .i64 0, .int .i64 0, .int .i64 0], .int .i64 k])) w' := by
 have h0 : ¬ derr l = 0 := by rw [h]; exact hk
 have h1 : dname l = ⟨#[]⟩ := if_neg h0
 have h2 : ∀ k, dnum l k = 0 := fun k => if_neg h0
 refine ⟨?_, hb⟩
 rw [h1, h2, h2, h2, h2, h2, h]
theorem Decodes.good {l : List UInt8} {w w' : World} (h : derr l = 0) (hb : Below w.heap.size w w') :
   Decodes l w (.returned (.tuple #[.agg #[.string (nm l), .int .i64 (((rdF (isTab (nm l)) 0 (part l 0)).getD 0 : Nat) : Int), .int .i64 (((rdF (isTab (nm l)) 1 (part l 1)).getD 0 : Nat) : Int), .int .i64 (((rdF (isTab (nm l)) 2 (part l 2)).getD 0 : Nat) : Int),
     .int .i64 (((rdF (isTab (nm l)) 3 (part l 3)).getD 0 : Nat) : Int), .int .i64 (((rdF (isTab (nm l)) 4 (part l 4)).getD 0 : Nat) : Int)], .int .i64 0])) w' := by
 have h1 : dname l = nm l := if_pos h
 have h2 : ∀ k, dnum l k = (((rdF (isTab (nm l)) k (part l k)).getD 0 : Nat) : Int) := fun k => if_pos h
 refine ⟨?_, hb⟩
 rw [h1, h2, h2, h2, h2, h2, h]

theorem Rd_where {w : World} {K n : Nat} {A : Option Addr} {l : List UInt8} (h : Rd w K A n l) (hn : 0 < n) : ∃ b o, A = some ⟨b, o, none⟩ ∧ b < K := by
 obtain ⟨b, o, e, hb, _⟩ := h.2 0 (by have := h.1; omega)
 exact ⟨b, o, e, hb⟩
end Go.Proofs.YtjobmkodgodloaaGreatDoor.Hdr

namespace Go.Proofs.YtjobmkodgodloaaGreatDoor.Hdr
open Go.RowKit Go.Proofs Go.Proofs.YtjobmkodgodloaaGreatDoor.Byt Go.Proofs.YtjobmkodgodloaaGreatDoor.Str Go.Proofs.YtjobmkodgodloaaGreatDoor.Dec

set_option maxRecDepth 100000 in
theorem decode_2 (K : Nat) (A : Option Addr) (n c : Nat) (l : List UInt8) (w : World) (hr : Rd w K A n l) (h : n < 60) :
   Calls Tryz.prog 75 #[.slice A n c] w (Decodes l w) := by
 have Hf := hid fun w' (hb : Below w.heap.size w w') => Decodes.bad (derr_2 (l := l) (by rw [hr.1]; exact h)) (by decide) hb
 go_enter Tryz.func75, Tryz.ntmps75
 go_wp2_with fail
 exact bodyPost_ret (v := .tuple #[.agg #[.string ⟨#[]⟩, .int .i64 0, .int .i64 0, .int .i64 0, .int .i64 0, .int .i64 0], .int .i64 2]) (by simp [results, Tryz.results75, go_sem]) rfl (Hf.out _ ((Below.refl _ _).alloc (Nat.le_refl _) _))

set_option maxRecDepth 100000 in
set_option maxHeartbeats 1000000 in
theorem decode_4 (K b o : Nat) (n c : Nat) (l : List UInt8) (w : World) (hr : Rd w K (some ⟨b, o, none⟩) n l) (hK : K ≤ w.heap.size) (h : 60 ≤ n) (hc : n ≤ c) (hx : ¬ (l.drop 58).take 2 = [96, 10]) :
   Calls Tryz.prog 75 #[.slice (some ⟨b, o, none⟩) n c] w (Decodes l w) := by
 have Hf := hid fun w' (hb : Below w.heap.size w w') => Decodes.bad (derr_4 (l := l) (by rw [hr.1]; exact h) hx) (by decide) hb
 have hb0 : Below w.heap.size w (w.alloc (.cells #[.string ⟨#[]⟩, .int .i64 0, .int .i64 0, .int .i64 0, .int .i64 0, .int .i64 0] 90)) := (Below.refl _ _).alloc (Nat.le_refl _) _
 have hr1 := ((hr.more hK).below hb0).cut 58 |>.pre (show 2 ≤ n - 58 by omega)
 have Hr1 := hid hr1
 have Hb0 := hid hb0
 have hx' : (List.take 2 (List.drop 58 l) == [96, 10]) = false := by simpa using hx
 clear hx hr1 hb0
 go_enter Tryz.func75, Tryz.ntmps75
 go_wp2_with (refine wpList_str _ _ _ _ _ _ Hr1.out rfl (.tmp 17) rfl rfl ?_)
 exact bodyPost_ret (v := .tuple #[.agg #[.string ⟨#[]⟩, .int .i64 0, .int .i64 0, .int .i64 0, .int .i64 0, .int .i64 0], .int .i64 4]) (by simp [results, Tryz.results75, go_sem]) rfl (Hf.out _ Hb0.out)

theorem six (w : World) (B : Nat) (cs : Array Value) (t : TypeId) (h : w.heap[B]? = some (.cells cs t (0, 0))) (hs : cs.size = 6) (x0 x1 x2 x3 x4 x5 : Value) :
   ((((((w.setCell ⟨B, 0, none⟩ x0).setCell ⟨B, 1, none⟩ x1).setCell ⟨B, 2, none⟩ x2).setCell ⟨B, 3, none⟩ x3).setCell ⟨B, 4, none⟩ x4).setCell ⟨B, 5, none⟩ x5).heap[B]? = some (.cells #[x0, x1, x2, x3, x4, x5] t (0, 0)) := by
 obtain ⟨l⟩ := cs
 match l, hs with
 | [_, _, _, _, _, _], _ =>
   have h0 := heap_setCell_same w B 0 _ t x0 h
   have h1 := heap_setCell_same _ B 1 _ t x1 h0
   have h2 := heap_setCell_same _ B 2 _ t x2 h1
   have h3 := heap_setCell_same _ B 3 _ t x3 h2
   have h4 := heap_setCell_same _ B 4 _ t x4 h3
   have h5 := heap_setCell_same _ B 5 _ t x5 h4
   exact h5
theorem six_below {w0 w : World} {B K : Nat} (h : Below K w0 w) (hB : K ≤ B) (x0 x1 x2 x3 x4 x5 : Value) :
   Below K w0 ((((((w.setCell ⟨B, 0, none⟩ x0).setCell ⟨B, 1, none⟩ x1).setCell ⟨B, 2, none⟩ x2).setCell ⟨B, 3, none⟩ x3).setCell ⟨B, 4, none⟩ x4).setCell ⟨B, 5, none⟩ x5) :=
 ((((((h.setCell (p := ⟨B, 0, none⟩) hB x0).setCell (p := ⟨B, 1, none⟩) hB x1).setCell (p := ⟨B, 2, none⟩) hB x2).setCell (p := ⟨B, 3, none⟩) hB x3).setCell (p := ⟨B, 4, none⟩) hB x4).setCell (p := ⟨B, 5, none⟩) hB x5)
theorem load_six (w : World) (B : Nat) (cs : Array Value) (h : w.heap[B]? = some (.cells cs 90 (0, 0))) (hs : cs.size = 6) :
   (loadVar 90 ⟨B, 0, none⟩).run Tryz.prog w = .ok (.agg cs) w :=
 run_loadVar_row w B 90 90 cs (0, 0) _ h Tryz.underlying90 rfl (by rw [hs]; kernel_rfl)

theorem trim_name (l : List UInt8) (w : World) : Calls Tryz.prog 89 #[.string ⟨(l.take 16).toArray⟩, .string ⟨#[32]⟩] w fun e w' => e = .returned (.string (nm l)) ∧ w' = w := by
 refine (Tryz.strings_TrimRight_one ⟨(l.take 16).toArray⟩ 32 (by decide) w ?_).mono fun e w' ⟨he, hw⟩ => ⟨he, hw⟩
 show (l.take 16).toArray.size ≤ _
 simp
 omega

theorem staysf {w w' : World} {B K : Nat} (hb : Below K w w') (hB : B < K) : ∀ o, w'.frozen? ⟨B, o, none⟩ = w.frozen? ⟨B, o, none⟩ := fun o => hb.frozen (p := ⟨B, o, none⟩) hB

set_option maxRecDepth 100000 in
set_option maxHeartbeats 1000000 in
theorem decode_6 (K b o : Nat) (n c : Nat) (l : List UInt8) (w : World) (hr : Rd w K (some ⟨b, o, none⟩) n l) (hK : K ≤ w.heap.size) (h : 60 ≤ n) (hc : n ≤ c) (hx : (l.drop 58).take 2 = [96, 10]) (h6 : nameOk (nm l) = false) :
   Calls Tryz.prog 75 #[.slice (some ⟨b, o, none⟩) n c] w (Decodes l w) := by
 have Hf := hid fun w' (hb : Below w.heap.size w w') => Decodes.bad (derr_6 (l := l) (by rw [hr.1]; exact h) hx h6) (by decide) hb
 have hb0 : Below w.heap.size w (w.alloc (.cells #[.string ⟨#[]⟩, .int .i64 0, .int .i64 0, .int .i64 0, .int .i64 0, .int .i64 0] 90)) := (Below.refl _ _).alloc (Nat.le_refl _) _
 have hr1 := ((hr.more hK).below hb0)
 have Hr1 := hid (hr1.cut 58 |>.pre (show 2 ≤ n - 58 by omega))
 have Hr2 := hid (hr1.pre (show 16 ≤ n by omega))
 have Hb0 := hid hb0
 have hx' : (List.take 2 (List.drop 58 l) == [96, 10]) = true := by simpa using hx
 have hns := nm_size l
 have Hn := hid fun w' => nameFits_any (nm l) w' (by omega)
 clear hx hr1 hb0
 go_enter Tryz.func75, Tryz.ntmps75
 go_wp2_with (first
   | (refine wpList_str _ _ _ _ _ _ Hr1.out rfl (.tmp 17) rfl rfl ?_)
   | (refine wpList_str _ _ _ _ _ _ Hr2.out rfl (.tmp 22) rfl rfl ?_)
   | (go_at_call 89; refine (trim_name l _).mono ?_; rintro e w' ⟨rfl, hw⟩; rw [hw])
   | (go_at_call 90; refine (Hn.out _).mono ?_; rintro e w2 ⟨rfl, hb2⟩; rw [h6]; have k2 := stays (B := w.heap.size) hb2 (by simp); have f2 := staysf (B := w.heap.size) hb2 (by simp)))
 have hh : w2.heap[w.heap.size]? = some (.cells #[.string ⟨#[]⟩, .int .i64 0, .int .i64 0, .int .i64 0, .int .i64 0, .int .i64 0] 90 (0, 0)) := by
   rw [hb2.block _ (by simp)]; exact heap_alloc_new w _
 have hl := load_six _ _ _ (six w2 w.heap.size _ 90 hh rfl (.string ⟨#[]⟩) (.int .i64 0) (.int .i64 0) (.int .i64 0) (.int .i64 0) (.int .i64 0)) rfl
 exact bodyPost_ret (v := .tuple #[.agg #[.string ⟨#[]⟩, .int .i64 0, .int .i64 0, .int .i64 0, .int .i64 0, .int .i64 0], .int .i64 6]) (by simp [results, Tryz.results75, asAddr, hl]) rfl
   (Hf.out _ (six_below (Hb0.out.trans (hb2.mono (by simp))) (Nat.le_refl _) _ _ _ _ _ _))
end Go.Proofs.YtjobmkodgodloaaGreatDoor.Hdr

namespace Go.Proofs.YtjobmkodgodloaaGreatDoor.Hdr
open Go.RowKit Go.Proofs Go.Proofs.YtjobmkodgodloaaGreatDoor.Byt Go.Proofs.YtjobmkodgodloaaGreatDoor.Str Go.Proofs.YtjobmkodgodloaaGreatDoor.Dec

def val (l : List UInt8) (k j : Nat) : Int := if j < k then (((rdF (isTab (nm l)) j (part l j)).getD 0 : Nat) : Int) else 0
def hcells (l : List UInt8) (k : Nat) : Array Value := #[.string (nm l), .int .i64 (val l k 0), .int .i64 (val l k 1), .int .i64 (val l k 2), .int .i64 (val l k 3), .int .i64 (val l k 4)]
theorem hcells_set {l : List UInt8} {k x : Nat} (hk : k < 5) (h : rdF (isTab (nm l)) k (part l k) = some x) : (hcells l k).setIfInBounds (k + 1) (.int .i64 (x : Int)) = hcells l (k + 1) := by
 have h5 : k = 0 ∨ k = 1 ∨ k = 2 ∨ k = 3 ∨ k = 4 := by omega
 rcases h5 with rfl | rfl | rfl | rfl | rfl <;> simp [hcells, val, h]
theorem hcells_skip {l : List UInt8} {k : Nat} (hk : k < 5) (h : rdF (isTab (nm l)) k (part l k) = some 0) : hcells l k = hcells l (k + 1) := by
 have h5 : k = 0 ∨ k = 1 ∨ k = 2 ∨ k = 3 ∨ k = 4 := by omega
 rcases h5 with rfl | rfl | rfl | rfl | rfl <;> simp [hcells, val, h]
theorem allRd_next {l : List UInt8} {k x : Nat} (h : allRd l k = true) (h2 : rdF (isTab (nm l)) k (part l k) = some x) : allRd l (k + 1) = true := by
 simp only [allRd, h, h2]; rfl
theorem sl_eq {b x x' p p' q q' : Nat} (h1 : x = x') (h2 : p = p') (h3 : q = q') : Value.slice (some ⟨b, x, none⟩) p q = .slice (some ⟨b, x', none⟩) p' q' := by rw [h1, h2, h3]

theorem part_length {l : List UInt8} (h : 60 ≤ l.length) (k : Nat) (hk : k < 5) : (part l k).length = wd k := by
 have h5 : k = 0 ∨ k = 1 ∨ k = 2 ∨ k = 3 ∨ k = 4 := by omega
 unfold part
 rw [List.length_take, List.length_drop]
 rcases h5 with rfl | rfl | rfl | rfl | rfl <;> simp [off, wd] <;> omega
theorem part_rd {w : World} {K b o n : Nat} {l : List UInt8} (h : Rd w K (some ⟨b, o, none⟩) n l) (hn : 60 ≤ n) (k : Nat) (hk : k < 5) : Rd w K (some ⟨b, o + off k, none⟩) (wd k) (part l k) := by
 have h5 : k = 0 ∨ k = 1 ∨ k = 2 ∨ k = 3 ∨ k = 4 := by omega
 refine (h.cut (off k)).pre ?_
 rcases h5 with rfl | rfl | rfl | rfl | rfl <;> simp [off, wd] <;> omega

theorem parse_yes (k : Nat) (K : Nat) (A : Option Addr) (c : Nat) (x : List UInt8) (v : Nat) (w : World) (hr : Rd w K A (wd k) x) (hc : wd k ≤ c) (h : parse (bs k) x = some v) :
   Calls Tryz.prog 94 #[.slice A (wd k) c, .int .i64 (bs k : Int)] w fun e w' => e = .returned (.tuple #[.int .i64 (v : Int), .int .i64 0]) ∧ w = w' := by
 have hw := wd_18 k
 have h0 := perr_0 (l := x) (b := bs k) ⟨bs_vb k, by rw [hr.1]; exact vw_iff.2 (by omega)⟩ (n := v) (by rw [Int.toNat_natCast]; exact h)
 refine (parse_any K A (wd k) c x (bs k) w hr hc).mono fun e w' ⟨he, hw'⟩ => ⟨?_, hw'⟩
 rw [he, h0.1, h0.2]
theorem parse_no (k : Nat) (K : Nat) (A : Option Addr) (c : Nat) (x : List UInt8) (w : World) (hr : Rd w K A (wd k) x) (hc : wd k ≤ c) (h : parse (bs k) x = none) :
   Calls Tryz.prog 94 #[.slice A (wd k) c, .int .i64 (bs k : Int)] w fun e w' => e = .returned (.tuple #[.int .i64 0, .int .i64 3]) ∧ w = w' := by
 have hw := wd_18 k
 have h0 := perr_3 (l := x) (b := bs k) ⟨bs_vb k, by rw [hr.1]; exact vw_iff.2 (by omega)⟩ (by rw [Int.toNat_natCast]; exact h)
 refine (parse_any K A (wd k) c x (bs k) w hr hc).mono fun e w' ⟨he, hw'⟩ => ⟨?_, hw'⟩
 rw [he, h0.1, h0.2]
end Go.Proofs.YtjobmkodgodloaaGreatDoor.Hdr

namespace Go.Proofs.YtjobmkodgodloaaGreatDoor.Hdr
open Go.RowKit Go.Proofs Go.Proofs.YtjobmkodgodloaaGreatDoor.Byt Go.Proofs.YtjobmkodgodloaaGreatDoor.Str Go.Proofs.YtjobmkodgodloaaGreatDoor.Dec

theorem suffix_32 (xs : List UInt8) (c : UInt8) : Lib.hasSuffix (xs ++ [c]) [32] = (32 == c) := by
 unfold Lib.hasSuffix List.isSuffixOf
 simp [List.isPrefixOf]
theorem suffix_nil : Lib.hasSuffix [] [32] = false := rfl

theorem trim_pad {xs : List UInt8} (h : Lib.hasSuffix xs [32] = false) (k : Nat) : Lib.trimRightB (xs ++ List.replicate k 32) 32 = xs := by
 unfold Lib.trimRightB
 rw [List.reverse_append, List.reverse_replicate]
 have h1 : (List.replicate k (32 : UInt8) ++ xs.reverse).dropWhile (· == 32) = xs.reverse.dropWhile (· == 32) := by
   induction k with
   | zero => rfl
   | succ k ih => simp [List.replicate_succ]
 rw [h1]
 rcases List.eq_nil_or_concat xs with rfl | ⟨ys, c, rfl⟩
 · rfl
 · rw [List.concat_eq_append, suffix_32] at h
   have hc : (c == 32) = false := by
     rw [beq_eq_false_iff_ne] at h ⊢
     exact fun e => h e.symm
   simp [hc]
theorem by_inj {s s' : ByteArray} (h : by_ s = by_ s') : s = s' := by
 obtain ⟨⟨a⟩⟩ := s
 obtain ⟨⟨b⟩⟩ := s'
 simp only [by_] at h
 rw [h]

theorem pre_split (s : ByteArray) (f : Nat → Int) (k : Nat) : ∀ j, k < j → ∃ t, pre s f j = pre s f k ++ (fldF (isTab s) k (f k) ++ t)
 | 0, h => by omega
 | j + 1, h => by
   by_cases e : k = j
   · subst e; exact ⟨[], by simp [pre]⟩
   · obtain ⟨t, ht⟩ := pre_split s f k j (by omega)
     exact ⟨t ++ fldF (isTab s) j (f j), by simp [pre, ht]⟩
theorem allOk_at {s : ByteArray} {f : Nat → Int} {k : Nat} : ∀ j, k < j → allOk s f j = true → allOk s f k = true ∧ okF (isTab s) k (f k) = true
 | 0, h, _ => by omega
 | j + 1, h, ha => by
   simp only [allOk, Bool.and_eq_true] at ha
   by_cases e : k = j
   · subst e; exact ha
   · exact allOk_at j (by omega) ha.1

theorem rdF_fldF {tab : Bool} {k : Nat} {n : Int} (h : okF tab k n = true) : rdF tab k (fldF tab k n) = some n.toNat ∧ ((n.toNat : Nat) : Int) = n := by
 unfold okF at h
 unfold rdF fldF
 split
 · rename_i ht
   rw [if_pos ht, beq_iff_eq] at h
   subst h
   rw [if_pos (by simp [spaces])]
   exact ⟨rfl, rfl⟩
 · rename_i ht
   rw [if_neg ht, Bool.and_eq_true, decide_eq_true_eq, decide_eq_true_eq] at h
   exact ⟨parse_field (bs_2 k).1 (bs_2 k).2 _ _, by omega⟩

theorem part_pre {s : ByteArray} {f : Nat → Int} {k : Nat} (hs : s.size ≤ 16) (hk : k < 5) (h : allOk s f 5 = true) (r : List UInt8) : part (pre s f 5 ++ r) k = fldF (isTab s) k (f k) := by
 obtain ⟨t, ht⟩ := pre_split s f k 5 hk
 obtain ⟨h1, h2⟩ := allOk_at 5 hk h
 unfold part
 rw [ht, List.append_assoc, List.append_assoc, List.drop_left' (pre_length hs k h1), List.take_left' (fldF_length h2)]
theorem nm_pre {s : ByteArray} {f : Nat → Int} (hn : nameOk s = true) (r : List UInt8) : nm (pre s f 5 ++ r) = s := by
 obtain ⟨_, hs, _, hx⟩ := nameOk_iff.1 hn
 apply by_inj
 rw [by_nm]
 have e : (pre s f 5 ++ r).take 16 = by_ s ++ List.replicate (16 - s.size) 32 := by
   have e2 : pre s f 5 = pre s f 0 ++ (fldF (isTab s) 0 (f 0) ++ (fldF (isTab s) 1 (f 1) ++ (fldF (isTab s) 2 (f 2) ++ (fldF (isTab s) 3 (f 3) ++ fldF (isTab s) 4 (f 4))))) := by simp [pre]
   rw [e2, List.append_assoc]
   exact List.take_left' (pre_length hs 0 rfl)
 rw [e, trim_pad hx]

theorem dec_enc {s : ByteArray} {f : Nat → Int} (hn : nameOk s = true) (h : allOk s f 5 = true) (r : List UInt8) :
   derr (pre s f 5 ++ [96, 10] ++ r) = 0 ∧ dname (pre s f 5 ++ [96, 10] ++ r) = s ∧ ∀ k, k < 5 → dnum (pre s f 5 ++ [96, 10] ++ r) k = f k := by
 have hs := (nameOk_iff.1 hn).2.1
 have hl : (pre s f 5).length = 58 := pre_length hs 5 h
 rw [List.append_assoc]
 have hnm : nm (pre s f 5 ++ ([96, 10] ++ r)) = s := nm_pre hn _
 have hrd : ∀ k, k < 5 → rdF (isTab s) k (part (pre s f 5 ++ ([96, 10] ++ r)) k) = some (f k).toNat ∧ (((f k).toNat : Nat) : Int) = f k := fun k hk => by
   rw [part_pre hs hk h]; exact rdF_fldF (allOk_at 5 hk h).2
 have hall : ∀ j, j ≤ 5 → allRd (pre s f 5 ++ ([96, 10] ++ r)) j = true := by
   intro j
   induction j with
   | zero => intro _; rfl
   | succ j ih => intro hj; exact allRd_next (ih (by omega)) (by rw [hnm]; exact (hrd j (by omega)).1)
 have h0 : derr (pre s f 5 ++ ([96, 10] ++ r)) = 0 := by
   refine derr_0 ?_ ?_ (by rw [hnm]; exact hn) (hall 5 (by omega))
   · simp [hl]; omega
   · rw [List.drop_left' hl]; rfl
 refine ⟨h0, ?_, fun k hk => ?_⟩
 · unfold dname; rw [if_pos h0, hnm]
 · unfold dnum; rw [if_pos h0, hnm, (hrd k hk).1]
   exact (hrd k hk).2

theorem fldF_rdF {tab : Bool} {k x : Nat} {p : List UInt8} (hl : p.length = wd k) (h : rdF tab k p = some x) : okF tab k (x : Int) = true ∧ fldF tab k (x : Int) = p := by
 unfold rdF at h
 unfold okF fldF
 split at h
 · rename_i ht
   rw [if_pos ht, if_pos ht]
   split at h
   · rename_i hsp
     injection h with h
     subst h
     refine ⟨rfl, ?_⟩
     unfold spaces at hsp
     refine (List.eq_replicate_iff.2 ⟨hl, fun b hb => ?_⟩).symm
     have := List.all_eq_true.1 hsp b hb
     simpa using this
   · cases h
 · rename_i ht
   rw [if_neg ht, if_neg ht, Int.toNat_natCast]
   obtain ⟨h1, h2⟩ := (parse_iff (bs_2 k).1 (bs_2 k).2).1 h
   rw [hl] at h1 h2
   refine ⟨by simp [h1], ?_⟩
   unfold field
   exact h2.symm
theorem allRd_at {l : List UInt8} {k : Nat} : ∀ j, k < j → allRd l j = true → ∃ x, rdF (isTab (nm l)) k (part l k) = some x
 | 0, h, _ => by omega
 | j + 1, h, ha => by
   simp only [allRd, Bool.and_eq_true] at ha
   by_cases e : k = j
   · subst e; exact Option.isSome_iff_exists.1 ha.2
   · exact allRd_at j (by omega) ha.1

theorem derr_ok {l : List UInt8} (h : derr l = 0) : 60 ≤ l.length ∧ (l.drop 58).take 2 = [96, 10] ∧ nameOk (nm l) = true ∧ allRd l 5 = true := by
 unfold derr at h
 split at h
 · omega
 · split at h
   · omega
   · split at h
     · omega
     · split at h
       · omega
       · rename_i h1 h2 h3 h4
         exact ⟨by omega, by simpa using h2, by simpa using h3, by simpa using h4⟩

end Go.Proofs.YtjobmkodgodloaaGreatDoor.Hdr
