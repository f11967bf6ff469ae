/-
  arwrite: the archive that is written, and why its parts fit (mathematics).
-/
import Derived.Test.YteeeongnabpheaaGreatDoorWd
namespace Go.Proofs.YteeeongnabpheaaGreatDoor.Arw
open Go.RowKit Go.Proofs Go.Proofs.YteeeongnabpheaaGreatDoor.Byt Go.Proofs.YteeeongnabpheaaGreatDoor.Dec Go.Proofs.YteeeongnabpheaaGreatDoor.Lnm Go.Proofs.YteeeongnabpheaaGreatDoor.Hdr Go.Proofs.YteeeongnabpheaaGreatDoor.Arp

/-- The error of a part's header, and the part's bytes; the name is the name field. -/
def herr (x : Mem) : Int := eerr x.name (num x.time x.uid x.gid x.mode (x.len : Int))
def ptl (x : Mem) : List UInt8 := mkp x.name (num x.time x.uid x.gid x.mode (x.len : Int)) x.data
def setN (f : ByteArray) (x : Mem) : Mem := { x with name := f }
/-- The map's part and the table's. -/
def mpt (A : Option Addr) (n c : Nat) (d : List UInt8) : Mem := ⟨⟨#[47]⟩, 0, 0, 0, 0, A, n, c, d⟩
def tpt (A : Option Addr) (n c : Nat) (d : List UInt8) : Mem := ⟨⟨#[47, 47]⟩, 0, 0, 0, 0, A, n, c, d⟩
def bodyP (xs : List Mem) : List Mem := List.zipWith setN (fo (nms xs)) xs
def mapP (hm : Bool) (A : Option Addr) (n c : Nat) (d : List UInt8) : List Mem := if hm = true then [mpt A n c d] else []
def tabP (A : Option Addr) (n c : Nat) (d : List UInt8) : List Mem := if n = 0 then [] else [tpt A n c d]
def flat (ps : List Mem) : List UInt8 := (ps.map ptl).flatten
/-- The archive. -/
def arch (hm : Bool) (md : List UInt8) (xs : List Mem) : List UInt8 :=
  Arp.magic ++ (flat (mapP hm none md.length 0 md) ++ (flat (tabP none (bo (nms xs)).length 0 (bo (nms xs))) ++ flat (bodyP xs)))
theorem flat_append (a b : List Mem) : flat (a ++ b) = flat a ++ flat b := by simp [flat]
theorem flat_nil : flat [] = [] := rfl
theorem flat_one (x : Mem) : flat [x] = ptl x := by simp [flat]
theorem flat_succ {ps : List Mem} {k : Nat} (hk : k < ps.length) : flat (ps.take (k + 1)) = flat (ps.take k) ++ ptl ps[k] := by
  rw [List.take_succ_eq_append_getElem hk, flat_append, flat_one]
theorem flat_mapP (hm : Bool) (A : Option Addr) (n c : Nat) (d : List UInt8) : flat (mapP hm A n c d) = flat (mapP hm none n 0 d) := by
  unfold mapP; cases hm <;> rfl
theorem flat_tabP (A : Option Addr) (n c : Nat) (d : List UInt8) : flat (tabP A n c d) = flat (tabP none n 0 d) := by
  unfold tabP; split <;> rfl

theorem fitL_zero : ∀ (k : Nat) (xs : List Mem), (fitL k xs).2 = 0 ↔ ∀ x ∈ xs, fitsM x = 0
  | _, [] => by simp [fitL]
  | k, x :: r => by
    unfold fitL
    by_cases h : fitsM x = 0
    · rw [if_pos h, fitL_zero (k + 1) r]; simp [h]
    · rw [if_neg h]; simp [h]
theorem fitsM_zero {x : Mem} (h : fitsM x = 0) : vld (bts x.name) = true ∧ allOk ⟨#[47, 48]⟩ (num x.time x.uid x.gid x.mode (x.len : Int)) 5 = true := by
  unfold fitsM at h
  split at h
  · rename_i hv
    refine ⟨hv, ?_⟩
    unfold eerr at h
    have h2 : nameOk ⟨#[47, 48]⟩ = true := by decide +kernel
    rw [if_pos h2] at h
    split at h
    · assumption
    · cases h
  · cases h
theorem allOk_tab {s s' : ByteArray} {f : Nat → Int} (h : isTab s = isTab s') : ∀ k, allOk s f k = allOk s' f k
  | 0 => rfl
  | k + 1 => by unfold allOk; rw [allOk_tab h k, h]

theorem no_bad {l : List UInt8} (h : ∀ c ∈ l, c ≠ 10 ∧ c ≠ 0) : Str.bad l = false := by
  unfold Str.bad Lib.containsAny
  rw [Lib.indexAny_none (fun j b _ hb => by
    have := h b (List.mem_of_getElem? hb)
    simp [this.1, this.2])]
  rfl

theorem fld_ok {pre : List ByteArray} {n : ByteArray} (hv : vld (bts n) = true) (hl : (tab (longs pre)).length ≤ 100000) : nameOk (fld pre n) = true ∧ isTab (fld pre n) = false := by
  unfold fld
  by_cases hs : sht (bts n) = true
  · rw [if_pos hs]
    have hs' := hs
    unfold sht at hs'
    simp only [Bool.and_eq_true, decide_eq_true_eq, Bool.not_eq_true', hv, true_and] at hs'
    obtain ⟨h15, _⟩ := hs'
    have h1 := (vld_iff.1 hv).1
    refine ⟨nameOk_iff.2 ⟨?_, ?_, ?_, ?_⟩, ?_⟩
    · rw [str_size, List.length_append]; simp
    · rw [str_size, List.length_append]; simp; omega
    · show Str.bad (bts (str _)) = false
      rw [bts_str]
      refine no_bad fun c hc => ?_
      rw [List.mem_append] at hc
      rcases hc with hc | hc
      · have := vld_ok hv hc; exact ⟨this.2.1, this.2.2⟩
      · simp at hc; subst hc; exact ⟨by decide, by decide⟩
    · show Lib.hasSuffix (bts (str _)) [32] = false
      rw [bts_str]
      unfold Lib.hasSuffix
      cases h : List.isSuffixOf [32] (bts n ++ [47])
      · rfl
      · obtain ⟨t, ht⟩ := List.isSuffixOf_iff_suffix.1 h
        have := congrArg List.getLast? ht
        simp at this
    · unfold isTab
      rw [Lib.toList_data]
      show (bts (str _) == [47, 47]) = false
      rw [bts_str]
      match hb : bts n, h1 with
      | c :: r, _ =>
        have hc := (vld_ok hv (c := c) (by rw [hb]; simp)).1
        simp [hc]
  · rw [if_neg hs]
    have hd := tx_digits (B := 10) (by decide) (by decide) (tab (longs pre)).length
    have hn : nd 10 (tab (longs pre)).length ≤ 6 := nd_le_of_lt (by decide) (by decide) (by omega)
    have hp := nd_pos 10 (tab (longs pre)).length
    have hlen := tx_length (B := 10) (by decide) (tab (longs pre)).length
    generalize tx 10 (tab (longs pre)).length = d at *
    have hdd : ∀ c ∈ d, 48 ≤ c.toNat ∧ c.toNat < 58 := fun c hc => by have := isD_iff.1 (hd c hc); omega
    refine ⟨nameOk_iff.2 ⟨?_, ?_, ?_, ?_⟩, ?_⟩
    · rw [str_size, List.length_append]; simp
    · rw [str_size, List.length_append]; simp; omega
    · show Str.bad (bts (str _)) = false
      rw [bts_str]
      refine no_bad fun c hc => ?_
      rw [List.mem_append] at hc
      rcases hc with hc | hc
      · simp at hc; subst hc; exact ⟨by decide, by decide⟩
      · have := hdd c hc
        exact ⟨fun e => by subst e; simp at this, fun e => by subst e; simp at this⟩
    · show Lib.hasSuffix (bts (str _)) [32] = false
      rw [bts_str]
      unfold Lib.hasSuffix
      cases h : List.isSuffixOf [32] ([47] ++ d)
      · rfl
      · obtain ⟨t, ht⟩ := List.isSuffixOf_iff_suffix.1 h
        have hm : (32 : UInt8) ∈ [47] ++ d := by rw [← ht]; simp
        rw [List.mem_append] at hm
        rcases hm with hm | hm
        · simp at hm
        · have := hdd _ hm; simp at this
    · unfold isTab
      rw [Lib.toList_data]
      show (bts (str _) == [47, 47]) = false
      rw [bts_str]
      match d, hlen with
      | c :: r, _ =>
        have := hdd c (by simp)
        have hc : c ≠ 47 := fun e => by subst e; simp at this
        simp [hc]
      | [], h => exact absurd h (by simp; omega)

theorem herr_map {A : Option Addr} {n c : Nat} {d : List UInt8} (hn : n ≤ 1000000) : herr (mpt A n c d) = 0 := by
  have h1 : nameOk ⟨#[47]⟩ = true := by decide +kernel
  have h2 : isTab ⟨#[47]⟩ = false := by decide +kernel
  have h3 : nd 10 n ≤ 10 := nd_le_of_lt (by decide) (by decide) (by omega)
  have h4 : nd 8 0 = 1 := nd_small (by decide)
  have h5 : nd 10 0 = 1 := nd_small (by decide)
  refine (eerr_0 h1 ?_).1
  simp [allOk, h2, okF, num, bs, wd, h4, h5, h3, mpt]
theorem herr_tab {A : Option Addr} {n c : Nat} {d : List UInt8} (hn : n ≤ 1000000) : herr (tpt A n c d) = 0 := by
  have h1 : nameOk ⟨#[47, 47]⟩ = true := by decide +kernel
  have h2 : isTab ⟨#[47, 47]⟩ = true := by decide +kernel
  have h3 : nd 10 n ≤ 10 := nd_le_of_lt (by decide) (by decide) (by omega)
  refine (eerr_0 h1 ?_).1
  simp [allOk, h2, okF, num, bs, wd, mo, h3, tpt]

theorem nms_allV {xs : List Mem} (h : ∀ x ∈ xs, fitsM x = 0) : allV (nms xs) = true :=
  allV_iff.2 fun n hn => by
    obtain ⟨x, hx, rfl⟩ := List.mem_map.1 hn
    exact (fitsM_zero (h x hx)).1
theorem bodyP_length {xs : List Mem} (h : ∀ x ∈ xs, fitsM x = 0) : (bodyP xs).length = xs.length := by
  unfold bodyP
  rw [List.length_zipWith, show fo (nms xs) = flds [] (nms xs) from if_pos (nms_allV h), flds_length]
  simp [nms]
theorem fo_at {xs : List Mem} (h : ∀ x ∈ xs, fitsM x = 0) {k : Nat} (hk : k < xs.length) : (fo (nms xs))[k]? = some (fld ((nms xs).take k) xs[k].name) := by
  rw [show fo (nms xs) = flds [] (nms xs) from if_pos (nms_allV h), flds_at [] (nms xs) k (by simpa [nms] using hk)]
  simp [nms]
theorem bodyP_at {xs : List Mem} (h : ∀ x ∈ xs, fitsM x = 0) {k : Nat} (hk : k < xs.length) : (bodyP xs)[k]'(by rw [bodyP_length h]; exact hk) = setN (fld ((nms xs).take k) xs[k].name) xs[k] := by
  unfold bodyP
  rw [List.getElem_zipWith]
  have h2 := fo_at h hk
  obtain ⟨h3, h4⟩ := List.getElem?_eq_some_iff.1 h2
  rw [h4]
theorem herr_body {xs : List Mem} (h : ∀ x ∈ xs, fitsM x = 0) (hn : xs.length ≤ 100) {k : Nat} (hk : k < xs.length) : herr (setN (fld ((nms xs).take k) xs[k].name) xs[k]) = 0 := by
  obtain ⟨hv, ha⟩ := fitsM_zero (h xs[k] (List.getElem_mem hk))
  have hal : allV ((nms xs).take k) = true := allV_iff.2 fun n hm => allV_iff.1 (nms_allV h) n (List.mem_of_mem_take hm)
  have hl := tabl_len hal (k := 100) (by rw [List.length_take]; simp [nms]; omega)
  obtain ⟨h1, h2⟩ := fld_ok (pre := (nms xs).take k) hv (by omega)
  have h3 : isTab ⟨#[47, 48]⟩ = false := by decide +kernel
  refine (eerr_0 h1 ?_).1
  rw [← ha]
  exact allOk_tab (h2.trans h3.symm) 5
end Go.Proofs.YteeeongnabpheaaGreatDoor.Arw
