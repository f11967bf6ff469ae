/-
  header.Decode: what a round needs, and what is in memory.
-/
import Derived.Test.YtfhdgbpkhcnanaaDoorHdi
namespace Go.Proofs.YtfhdgbpkhcnanaaDoor.Hdr
open Go.RowKit Go.Proofs Go.Proofs.YtfhdgbpkhcnanaaDoor.Byt Go.Proofs.YtfhdgbpkhcnanaaDoor.Str Go.Proofs.YtfhdgbpkhcnanaaDoor.Dec

/-- The numbers that have been read before field k. -/
def val (l : List UInt8) (k j : Nat) : Int := if j < k then (((rdF (isTab (nm l)) j (part l j)).getD 0 : Nat) : Int) else 0
def hcells (l : List UInt8) (k : Nat) : Array Value := #[.string (nm l), .int .i64 (val l k 0), .int .i64 (val l k 1), .int .i64 (val l k 2), .int .i64 (val l k 3), .int .i64 (val l k 4)]
theorem hcells_set {l : List UInt8} {k x : Nat} (hk : k < 5) (h : rdF (isTab (nm l)) k (part l k) = some x) : (hcells l k).setIfInBounds (k + 1) (.int .i64 (x : Int)) = hcells l (k + 1) := by
  have h5 : k = 0 ∨ k = 1 ∨ k = 2 ∨ k = 3 ∨ k = 4 := by omega
  rcases h5 with rfl | rfl | rfl | rfl | rfl <;> simp [hcells, val, h]
theorem hcells_skip {l : List UInt8} {k : Nat} (hk : k < 5) (h : rdF (isTab (nm l)) k (part l k) = some 0) : hcells l k = hcells l (k + 1) := by
  have h5 : k = 0 ∨ k = 1 ∨ k = 2 ∨ k = 3 ∨ k = 4 := by omega
  rcases h5 with rfl | rfl | rfl | rfl | rfl <;> simp [hcells, val, h]
theorem allRd_next {l : List UInt8} {k x : Nat} (h : allRd l k = true) (h2 : rdF (isTab (nm l)) k (part l k) = some x) : allRd l (k + 1) = true := by
  simp only [allRd, h, h2]; rfl
theorem sl_eq {b x x' p p' q q' : Nat} (h1 : x = x') (h2 : p = p') (h3 : q = q') : Value.slice (some ⟨b, x, none⟩) p q = .slice (some ⟨b, x', none⟩) p' q' := by rw [h1, h2, h3]

theorem part_length {l : List UInt8} (h : 60 ≤ l.length) (k : Nat) (hk : k < 5) : (part l k).length = wd k := by
  have h5 : k = 0 ∨ k = 1 ∨ k = 2 ∨ k = 3 ∨ k = 4 := by omega
  unfold part
  rw [List.length_take, List.length_drop]
  rcases h5 with rfl | rfl | rfl | rfl | rfl <;> simp [off, wd] <;> omega
theorem part_rd {w : World} {K b o n : Nat} {l : List UInt8} (h : Rd w K (some ⟨b, o, none⟩) n l) (hn : 60 ≤ n) (k : Nat) (hk : k < 5) : Rd w K (some ⟨b, o + off k, none⟩) (wd k) (part l k) := by
  have h5 : k = 0 ∨ k = 1 ∨ k = 2 ∨ k = 3 ∨ k = 4 := by omega
  refine (h.cut (off k)).pre ?_
  rcases h5 with rfl | rfl | rfl | rfl | rfl <;> simp [off, wd] <;> omega

theorem parse_yes (k : Nat) (K : Nat) (A : Option Addr) (c : Nat) (x : List UInt8) (v : Nat) (w : World) (hr : Rd w K A (wd k) x) (hc : wd k ≤ c) (h : parse (bs k) x = some v) :
    Calls Tryd.prog 27 #[.slice A (wd k) c, .int .i64 (bs k : Int)] w fun e w' => e = .returned (.tuple #[.int .i64 (v : Int), .int .i64 0]) ∧ w = w' := by
  have hw := wd_18 k
  have h0 := perr_0 (l := x) (b := bs k) ⟨bs_vb k, by rw [hr.1]; exact vw_iff.2 (by omega)⟩ (n := v) (by rw [Int.toNat_natCast]; exact h)
  refine (parse_any K A (wd k) c x (bs k) w hr hc).mono fun e w' ⟨he, hw'⟩ => ⟨?_, hw'⟩
  rw [he, h0.1, h0.2]
theorem parse_no (k : Nat) (K : Nat) (A : Option Addr) (c : Nat) (x : List UInt8) (w : World) (hr : Rd w K A (wd k) x) (hc : wd k ≤ c) (h : parse (bs k) x = none) :
    Calls Tryd.prog 27 #[.slice A (wd k) c, .int .i64 (bs k : Int)] w fun e w' => e = .returned (.tuple #[.int .i64 0, .int .i64 3]) ∧ w = w' := by
  have hw := wd_18 k
  have h0 := perr_3 (l := x) (b := bs k) ⟨bs_vb k, by rw [hr.1]; exact vw_iff.2 (by omega)⟩ (by rw [Int.toNat_natCast]; exact h)
  refine (parse_any K A (wd k) c x (bs k) w hr hc).mono fun e w' ⟨he, hw'⟩ => ⟨?_, hw'⟩
  rw [he, h0.1, h0.2]
end Go.Proofs.YtfhdgbpkhcnanaaDoor.Hdr
