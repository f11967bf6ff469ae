/-
  The reference's Decode: a number read, and what stands before the fields.
-/
import Derived.Test.YtfhdgbpkhcnanaaDoorHrb
import Derived.Test.YtfhdgbpkhcnanaaDoorHdm
namespace Go.Proofs.YtfhdgbpkhcnanaaDoor.Hdr
open Go.RowKit Go.Proofs Go.Proofs.YtfhdgbpkhcnanaaDoor.Byt Go.Proofs.YtfhdgbpkhcnanaaDoor.Str Go.Proofs.YtfhdgbpkhcnanaaDoor.Dec

theorem same_spaces (x : List UInt8) : (x == List.replicate x.length 32) = spaces x := by
  unfold spaces
  rw [Bool.eq_iff_iff, beq_iff_eq, List.all_eq_true]
  constructor
  · intro h b hb
    rw [h] at hb
    have := (List.mem_replicate.1 hb).2
    simp [this]
  · intro h
    exact List.eq_replicate_iff.2 ⟨rfl, fun b hb => by simpa using h b hb⟩

/-- What number gives. -/
def Num (o : Option Nat) (w : World) (e : Ending) (w' : World) : Prop := e = .returned (.tuple #[.int .i64 ((o.getD 0 : Nat) : Int), .bool o.isSome]) ∧ Below w.heap.size w w'

def spO (x : List UInt8) : Option Nat := if spaces x = true then some 0 else none
theorem rnumber_blank (K : Nat) (A : Option Addr) (n c : Nat) (b : Int) (x : List UInt8) (w : World) (hr : Rd w K A n x) (hK : K ≤ w.heap.size) (hn : n ≤ 1000) :
    Calls Tryd.prog 28 #[.slice A n c, .int .i64 b, .bool true] w (Num (spO x) w) := by
  have Hs := hid fun w' => rspaces_any n w' hn
  have hsp := same_spaces x
  rw [hr.1] at hsp
  have Hf : Hid (∀ w', Below w.heap.size w w' → Num (spO x) w (.returned (.tuple #[.int .i64 0, .bool (x == List.replicate n 32)])) w') := hid fun w' hb => by
    rw [hsp]
    unfold spO
    refine ⟨?_, hb⟩
    cases spaces x <;> rfl
  clear hsp
  go_enter Tryd.func28, Tryd.ntmps28
  go_wp2_with fail
  refine (Hs.out _).mono ?_
  rintro e w1 ⟨v1, rfl, hown1, hb1⟩
  obtain ⟨A1, c1, rfl, r1, _, _⟩ := hown1.reads
  have HS := hid (same_any _ rfl _ _ A A1 n c n c1 x (List.replicate n 32) w1 (hr.below (hb1.mono hK)) r1 (by omega))
  have Hb1 := hid hb1
  clear hown1 r1 hb1 hr
  go_wp2_with fail
  refine HS.out.mono ?_
  rintro e w2 ⟨rfl, m2, rfl⟩
  go_wp2_with fail
  go_ret2
  exact Hf.out _ (Hb1.out.trans (below_drewN _ _))

theorem rnumber_num (K : Nat) (A : Option Addr) (n c : Nat) (b : Nat) (x : List UInt8) (w : World) (hr : Rd w K A n x) (hK : K ≤ w.heap.size) (hb : vb (b : Int) = true) (hn : vw (n : Int) = true) :
    Calls Tryd.prog 28 #[.slice A n c, .int .i64 (b : Int), .bool false] w (Num (parse b x) w) := by
  have Hp := hid (rparse_any K A n c x b w hr hK)
  have Hf : Hid (∀ w', Below w.heap.size w w' → Num (parse b x) w (.returned (.tuple #[.int .i64 (pval x b), .bool (perr x b == 0)])) w') := hid fun w' h2 => by
    refine ⟨?_, h2⟩
    cases hx : parse b x with
    | none =>
      have h0 := perr_3 (l := x) (b := b) ⟨hb, by rw [hr.1]; exact hn⟩ (by rw [Int.toNat_natCast]; exact hx)
      rw [h0.1, h0.2]; rfl
    | some v =>
      have h0 := perr_0 (l := x) (b := b) ⟨hb, by rw [hr.1]; exact hn⟩ (n := v) (by rw [Int.toNat_natCast]; exact hx)
      rw [h0.1, h0.2]; rfl
  clear hr hb hn
  go_enter Tryd.func28, Tryd.ntmps28
  go_wp2_with fail
  refine Hp.out.mono ?_
  rintro e w1 ⟨rfl, hb1⟩
  go_wp2_with fail
  go_ret2
  exact Hf.out _ hb1

theorem rnumber_at (tab : Bool) (k : Nat) (K : Nat) (A : Option Addr) (c : Nat) (x : List UInt8) (w : World) (hr : Rd w K A (wd k) x) (hK : K ≤ w.heap.size) :
    Calls Tryd.prog 28 #[.slice A (wd k) c, .int .i64 (bs k : Int), .bool (mo k && tab)] w (Num (rdF tab k x) w) := by
  have hw := wd_18 k
  cases h : (mo k && tab)
  · have e : rdF tab k x = parse (bs k) x := by unfold rdF; rw [if_neg (by rw [h]; simp)]
    rw [e]
    exact rnumber_num K A (wd k) c (bs k) x w hr hK (bs_vb k) (vw_iff.2 (by omega))
  · have e : rdF tab k x = spO x := by unfold rdF spO; rw [if_pos h]
    rw [e]
    exact rnumber_blank K A (wd k) c (bs k) x w hr hK (by omega)

/-- The two bytes at the end, one by one. -/
theorem mark_iff {l : List UInt8} (h : 60 ≤ l.length) : (l.drop 58).take 2 = [96, 10] ↔ (l[58]'(by omega) = 96 ∧ l[59]'(by omega) = 10) := by
  have e : (l.drop 58).take 2 = [l[58]'(by omega), l[59]'(by omega)] := by
    rw [List.drop_eq_getElem_cons (by omega), List.drop_eq_getElem_cons (by omega)]
    rfl
  rw [e]
  simp

theorem trim_exit {l : List UInt8} {j : Nat} (h : l.take 16 = l.take j ++ List.replicate (16 - j) 32) (hs : Lib.hasSuffix (l.take j) [32] = false) : by_ (nm l) = l.take j := by
  rw [by_nm, h]
  exact trim_pad hs _
theorem nm_take {l : List UInt8} {j : Nat} (h : by_ (nm l) = l.take j) : ByteArray.mk (l.take j).toArray = nm l := by
  apply by_inj
  rw [h]
  rfl
theorem trim_start (l : List UInt8) : l.take 16 = l.take 16 ++ List.replicate (16 - 16) 32 := by simp
theorem trim_step {l : List UInt8} {q : Nat} (hl : 60 ≤ l.length) (hq : q < 16) (h : l.take 16 = l.take (q + 1) ++ List.replicate (16 - (q + 1)) 32) (h32 : l[q]'(by omega) = 32) : l.take 16 = l.take q ++ List.replicate (16 - q) 32 := by
  have e : l.take (q + 1) = l.take q ++ [32] := by rw [List.take_succ_eq_append_getElem (by omega), h32]
  rw [h, e, List.append_assoc]
  congr 1
  rw [show 16 - q = (16 - (q + 1)) + 1 by omega, List.replicate_succ]
  rfl
theorem trim_stop {l : List UInt8} {q : Nat} (hl : 60 ≤ l.length) (hq : q < 16) (h32 : l[q]'(by omega) ≠ 32) : Lib.hasSuffix (l.take (q + 1)) [32] = false := by
  rw [List.take_succ_eq_append_getElem (by omega), suffix_32, beq_eq_false_iff_ne]
  exact fun e => h32 e.symm

/-- Which fields have been read well. -/
def okc (l : List UInt8) (k j : Nat) : Bool := if j < k then (rdF (isTab (nm l)) j (part l j)).isSome else false
def okcells (l : List UInt8) (k : Nat) : Array Value := #[.bool (okc l k 0), .bool (okc l k 1), .bool (okc l k 2), .bool (okc l k 3), .bool (okc l k 4)]
theorem okcells_set {l : List UInt8} {k : Nat} (hk : k < 5) : (okcells l k).setIfInBounds k (.bool (rdF (isTab (nm l)) k (part l k)).isSome) = okcells l (k + 1) := by
  have h5 : k = 0 ∨ k = 1 ∨ k = 2 ∨ k = 3 ∨ k = 4 := by omega
  rcases h5 with rfl | rfl | rfl | rfl | rfl <;> simp [okcells, okc]
theorem hcells_put {l : List UInt8} {k : Nat} (hk : k < 5) : (hcells l k).setIfInBounds (k + 1) (.int .i64 (((rdF (isTab (nm l)) k (part l k)).getD 0 : Nat) : Int)) = hcells l (k + 1) := by
  have h5 : k = 0 ∨ k = 1 ∨ k = 2 ∨ k = 3 ∨ k = 4 := by omega
  rcases h5 with rfl | rfl | rfl | rfl | rfl <;> simp [hcells, val]
theorem allRd_of {l : List UInt8} (h : ∀ j, j < 5 → okc l 5 j = true) : ∀ k, k ≤ 5 → allRd l k = true
  | 0, _ => rfl
  | k + 1, hk => by
    have h1 := h k (by omega)
    unfold okc at h1
    rw [if_pos (by omega)] at h1
    simp only [allRd, allRd_of h k (by omega), h1]
    rfl
theorem allRd_not {l : List UInt8} {j : Nat} (hj : j < 5) (h : okc l 5 j = false) : allRd l 5 = false := by
  unfold okc at h
  rw [if_pos hj] at h
  refine allRd_false (k := j) ?_ 5 hj
  cases hx : rdF (isTab (nm l)) j (part l j) with
  | none => rfl
  | some v => rw [hx] at h; cases h
end Go.Proofs.YtfhdgbpkhcnanaaDoor.Hdr
