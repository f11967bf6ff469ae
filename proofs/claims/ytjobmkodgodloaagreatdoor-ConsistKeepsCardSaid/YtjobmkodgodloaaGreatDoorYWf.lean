/-
  arwrite: the archive that is written, and why its parts fit (mathematics).
  Append onto byte slices with what stays: all blocks but the slice's own; what a writer's step leaves as it is.
  arwrite: the writer's add.
  arwrite: eachPart with the writer's add.
  arwrite: parts.
-/
import Derived.Test.YtjobmkodgodloaaGreatDoorYWa
import Derived.Test.YtjobmkodgodloaaGreatDoorYOa
import Derived.Test.YtjobmkodgodloaaGreatDoorYP4z
namespace Go.Proofs.YtjobmkodgodloaaGreatDoor.Arw
open Go.RowKit Go.Proofs Go.Proofs.YtjobmkodgodloaaGreatDoor.Byt Go.Proofs.YtjobmkodgodloaaGreatDoor.Dec Go.Proofs.YtjobmkodgodloaaGreatDoor.Lnm Go.Proofs.YtjobmkodgodloaaGreatDoor.Hdr Go.Proofs.YtjobmkodgodloaaGreatDoor.Arp

def herr (x : Mem) : Int := eerr x.name (num x.time x.uid x.gid x.mode (x.len : Int))
def ptl (x : Mem) : List UInt8 := mkp x.name (num x.time x.uid x.gid x.mode (x.len : Int)) x.data
def setN (f : ByteArray) (x : Mem) : Mem := { x with name := f }
def mpt (A : Option Addr) (n c : Nat) (d : List UInt8) : Mem := ⟨⟨#[47]⟩, 0, 0, 0, 0, A, n, c, d⟩
def tpt (A : Option Addr) (n c : Nat) (d : List UInt8) : Mem := ⟨⟨#[47, 47]⟩, 0, 0, 0, 0, A, n, c, d⟩
def bodyP (xs : List Mem) : List Mem := List.zipWith setN (fo (nms xs)) xs
def mapP (hm : Bool) (A : Option Addr) (n c : Nat) (d : List UInt8) : List Mem := if hm = true then [mpt A n c d] else []
def tabP (A : Option Addr) (n c : Nat) (d : List UInt8) : List Mem := if n = 0 then [] else [tpt A n c d]
def flat (ps : List Mem) : List UInt8 := (ps.map ptl).flatten
def arch (hm : Bool) (md : List UInt8) (xs : List Mem) : List UInt8 :=
 Arp.magic ++ (flat (mapP hm none md.length 0 md) ++ (flat (tabP none (bo (nms xs)).length 0 (bo (nms xs))) ++ flat (bodyP xs)))
theorem flat_append (a b : List Mem) : flat (a ++ b) = flat a ++ flat b := by simp [flat]
theorem flat_nil : flat [] = [] := rfl
theorem flat_one (x : Mem) : flat [x] = ptl x := by simp [flat]
theorem flat_succ {ps : List Mem} {k : Nat} (hk : k < ps.length) : flat (ps.take (k + 1)) = flat (ps.take k) ++ ptl ps[k] := by
 rw [List.take_succ_eq_append_getElem hk, flat_append, flat_one]
theorem fitL_zero : ∀ (k : Nat) (xs : List Mem), (fitL k xs).2 = 0 ↔ ∀ x ∈ xs, fitsM x = 0
 | _, [] => by simp [fitL]
 | k, x :: r => by
   unfold fitL
   by_cases h : fitsM x = 0
   · rw [if_pos h, fitL_zero (k + 1) r]; simp [h]
   · rw [if_neg h]; simp [h]
theorem fitsM_zero {x : Mem} (h : fitsM x = 0) : vld (bts x.name) = true ∧ allOk ⟨#[47, 48]⟩ (num x.time x.uid x.gid x.mode (x.len : Int)) 5 = true := by
 unfold fitsM at h
 split at h
 · rename_i hv
   refine ⟨hv, ?_⟩
   unfold eerr at h
   have h2 : nameOk ⟨#[47, 48]⟩ = true := by decide +kernel
   rw [if_pos h2] at h
   split at h
   · assumption
   · cases h
 · cases h
theorem allOk_tab {s s' : ByteArray} {f : Nat → Int} (h : isTab s = isTab s') : ∀ k, allOk s f k = allOk s' f k
 | 0 => rfl
 | k + 1 => by unfold allOk; rw [allOk_tab h k, h]

theorem no_bad {l : List UInt8} (h : ∀ c ∈ l, c ≠ 10 ∧ c ≠ 0) : Str.bad l = false := by
 unfold Str.bad Lib.containsAny
 rw [Lib.indexAny_none (fun j b _ hb => by
   have := h b (List.mem_of_getElem? hb)
   simp [this.1, this.2])]
 rfl

theorem fld_ok {pre : List ByteArray} {n : ByteArray} (hv : vld (bts n) = true) (hl : (tab (longs pre)).length ≤ 100000) : nameOk (fld pre n) = true ∧ isTab (fld pre n) = false := by
 unfold fld
 by_cases hs : sht (bts n) = true
 · rw [if_pos hs]
   have hs' := hs
   unfold sht at hs'
   simp only [Bool.and_eq_true, decide_eq_true_eq, Bool.not_eq_true', hv, true_and] at hs'
   obtain ⟨h15, _⟩ := hs'
   have h1 := (vld_iff.1 hv).1
   refine ⟨nameOk_iff.2 ⟨?_, ?_, ?_, ?_⟩, ?_⟩
   · rw [str_size, List.length_append]; simp
   · rw [str_size, List.length_append]; simp; omega
   · show Str.bad (bts (str _)) = false
     rw [bts_str]
     refine no_bad fun c hc => ?_
     rw [List.mem_append] at hc
     rcases hc with hc | hc
     · have := vld_ok hv hc; exact ⟨this.2.1, this.2.2⟩
     · simp at hc; subst hc; exact ⟨by decide, by decide⟩
   · show Lib.hasSuffix (bts (str _)) [32] = false
     rw [bts_str]
     unfold Lib.hasSuffix
     cases h : List.isSuffixOf [32] (bts n ++ [47])
     · rfl
     · obtain ⟨t, ht⟩ := List.isSuffixOf_iff_suffix.1 h
       have := congrArg List.getLast? ht
       simp at this
   · unfold isTab
     rw [Lib.toList_data]
     show (bts (str _) == [47, 47]) = false
     rw [bts_str]
     match hb : bts n, h1 with
     | c :: r, _ =>
       have hc := (vld_ok hv (c := c) (by rw [hb]; simp)).1
       simp [hc]
 · rw [if_neg hs]
   have hd := tx_digits (B := 10) (by decide) (by decide) (tab (longs pre)).length
   have hn : nd 10 (tab (longs pre)).length ≤ 6 := nd_le_of_lt (by decide) (by decide) (by omega)
   have hp := nd_pos 10 (tab (longs pre)).length
   have hlen := tx_length (B := 10) (by decide) (tab (longs pre)).length
   generalize tx 10 (tab (longs pre)).length = d at *
   have hdd : ∀ c ∈ d, 48 ≤ c.toNat ∧ c.toNat < 58 := fun c hc => by have := isD_iff.1 (hd c hc); omega
   refine ⟨nameOk_iff.2 ⟨?_, ?_, ?_, ?_⟩, ?_⟩
   · rw [str_size, List.length_append]; simp
   · rw [str_size, List.length_append]; simp; omega
   · show Str.bad (bts (str _)) = false
     rw [bts_str]
     refine no_bad fun c hc => ?_
     rw [List.mem_append] at hc
     rcases hc with hc | hc
     · simp at hc; subst hc; exact ⟨by decide, by decide⟩
     · have := hdd c hc
       exact ⟨fun e => by subst e; simp at this, fun e => by subst e; simp at this⟩
   · show Lib.hasSuffix (bts (str _)) [32] = false
     rw [bts_str]
     unfold Lib.hasSuffix
     cases h : List.isSuffixOf [32] ([47] ++ d)
     · rfl
     · obtain ⟨t, ht⟩ := List.isSuffixOf_iff_suffix.1 h
       have hm : (32 : UInt8) ∈ [47] ++ d := by rw [← ht]; simp
       rw [List.mem_append] at hm
       rcases hm with hm | hm
       · simp at hm
       · have := hdd _ hm; simp at this
   · unfold isTab
     rw [Lib.toList_data]
     show (bts (str _) == [47, 47]) = false
     rw [bts_str]
     match d, hlen with
     | c :: r, _ =>
       have := hdd c (by simp)
       have hc : c ≠ 47 := fun e => by subst e; simp at this
       simp [hc]
     | [], h => exact absurd h (by simp; omega)

theorem herr_map {A : Option Addr} {n c : Nat} {d : List UInt8} (hn : n ≤ 1000000) : herr (mpt A n c d) = 0 := by
 have h1 : nameOk ⟨#[47]⟩ = true := by decide +kernel
 have h2 : isTab ⟨#[47]⟩ = false := by decide +kernel
 have h3 : nd 10 n ≤ 10 := nd_le_of_lt (by decide) (by decide) (by omega)
 have h4 : nd 8 0 = 1 := nd_small (by decide)
 have h5 : nd 10 0 = 1 := nd_small (by decide)
 refine (eerr_0 h1 ?_).1
 simp [allOk, h2, okF, num, bs, wd, h4, h5, h3, mpt]
theorem herr_tab {A : Option Addr} {n c : Nat} {d : List UInt8} (hn : n ≤ 1000000) : herr (tpt A n c d) = 0 := by
 have h1 : nameOk ⟨#[47, 47]⟩ = true := by decide +kernel
 have h2 : isTab ⟨#[47, 47]⟩ = true := by decide +kernel
 have h3 : nd 10 n ≤ 10 := nd_le_of_lt (by decide) (by decide) (by omega)
 refine (eerr_0 h1 ?_).1
 simp [allOk, h2, okF, num, bs, wd, mo, h3, tpt]

theorem nms_allV {xs : List Mem} (h : ∀ x ∈ xs, fitsM x = 0) : allV (nms xs) = true :=
 allV_iff.2 fun n hn => by
   obtain ⟨x, hx, rfl⟩ := List.mem_map.1 hn
   exact (fitsM_zero (h x hx)).1
theorem bodyP_length {xs : List Mem} (h : ∀ x ∈ xs, fitsM x = 0) : (bodyP xs).length = xs.length := by
 unfold bodyP
 rw [List.length_zipWith, show fo (nms xs) = flds [] (nms xs) from if_pos (nms_allV h), flds_length]
 simp [nms]
theorem fo_at {xs : List Mem} (h : ∀ x ∈ xs, fitsM x = 0) {k : Nat} (hk : k < xs.length) : (fo (nms xs))[k]? = some (fld ((nms xs).take k) xs[k].name) := by
 rw [show fo (nms xs) = flds [] (nms xs) from if_pos (nms_allV h), flds_at [] (nms xs) k (by simpa [nms] using hk)]
 simp [nms]
theorem bodyP_at {xs : List Mem} (h : ∀ x ∈ xs, fitsM x = 0) {k : Nat} (hk : k < xs.length) : (bodyP xs)[k]'(by rw [bodyP_length h]; exact hk) = setN (fld ((nms xs).take k) xs[k].name) xs[k] := by
 unfold bodyP
 rw [List.getElem_zipWith]
 have h2 := fo_at h hk
 obtain ⟨h3, h4⟩ := List.getElem?_eq_some_iff.1 h2
 rw [h4]
theorem herr_body {xs : List Mem} (h : ∀ x ∈ xs, fitsM x = 0) (hn : xs.length ≤ 100) {k : Nat} (hk : k < xs.length) : herr (setN (fld ((nms xs).take k) xs[k].name) xs[k]) = 0 := by
 obtain ⟨hv, ha⟩ := fitsM_zero (h xs[k] (List.getElem_mem hk))
 have hal : allV ((nms xs).take k) = true := allV_iff.2 fun n hm => allV_iff.1 (nms_allV h) n (List.mem_of_mem_take hm)
 have hl := tabl_len hal (k := 100) (by rw [List.length_take]; simp [nms]; omega)
 obtain ⟨h1, h2⟩ := fld_ok (pre := (nms xs).take k) hv (by omega)
 have h3 : isTab ⟨#[47, 48]⟩ = false := by decide +kernel
 refine (eerr_0 h1 ?_).1
 rw [← ha]
 exact allOk_tab (h2.trans h3.symm) 5
end Go.Proofs.YtjobmkodgodloaaGreatDoor.Arw

namespace Go.Proofs.YtjobmkodgodloaaGreatDoor.Byt
open Go.RowKit Go.Proofs
open Go.Proofs.YtjobmkodgodloaaGreatDoor.Sls (Fr Fr.ahead blk)

theorem Own.cel {w : World} {K n : Nat} {v : Value} {l : List UInt8} : Own w K v n l ↔ Cel.Own 5 1 w K v n (enc l) := by
 unfold Own Cel.Own
 simp only [Nat.mul_one, enc_length]
theorem Rd.cel {w : World} {K n : Nat} {A : Option Addr} {xs : List UInt8} (h : Rd w K A n xs) : Cel.Rd w K A n 1 (enc xs) :=
 ⟨by rw [enc_length, Nat.mul_one]; exact h.1, fun k hk => by
   rw [enc_length] at hk
   obtain ⟨b, o, e, hl, hc⟩ := h.2 k hk
   exact ⟨b, o, e, hl, by rw [hc]; simp [enc]⟩⟩

theorem Own.fr {w w' : World} {K n : Nat} {v u u' : Value} {l : List UInt8} (h : Own w K v n l) (ho : Fr u w u' w') (ha : Sls.Apart v u) : Own w' K v n l :=
 Own.cel.2 ((Own.cel.1 h).fr ho ha)
theorem Own.blk_lt {w : World} {K n : Nat} {v : Value} {l : List UInt8} (h : Own w K v n l) {k : Nat} (hk : blk v = some k) : k < w.heap.size := (Own.cel.1 h).blk_lt hk
end Go.Proofs.YtjobmkodgodloaaGreatDoor.Byt

namespace Go.Proofs.YtjobmkodgodloaaGreatDoor.Arw
open Go.RowKit Go.Proofs Go.Proofs.YtjobmkodgodloaaGreatDoor.Byt Go.Proofs.YtjobmkodgodloaaGreatDoor.Dec Go.Proofs.YtjobmkodgodloaaGreatDoor.Lnm Go.Proofs.YtjobmkodgodloaaGreatDoor.Hdr Go.Proofs.YtjobmkodgodloaaGreatDoor.Arp
open Go.Proofs.YtjobmkodgodloaaGreatDoor.Sls (Fr blk)

theorem cell_eq {W W' : World} {b o : Nat} (h : W'.heap[b]? = W.heap[b]?) : W'.cell? ⟨b, o, none⟩ = W.cell? ⟨b, o, none⟩ := by
 unfold World.cell?
 simp only [h]
theorem own_ne {w : World} {K n : Nat} {v : Value} {l : List UInt8} (h : Byt.Own w K v n l) {B : Nat} {cs : Array Value} {t : TypeId} {m : Nat × Nat} (hB : w.heap[B]? = some (.cells cs t m)) (ht : t ≠ 5) : blk v ≠ some B := fun e => by
 rcases h.2 with ⟨rfl, _⟩ | ⟨g, cap, cur, m', rfl, _, hg, _⟩
 · cases e
 · injection e with e
   simp only at e
   subst e
   rw [hB] at hg
   injection hg with hg
   injection hg with _ hg _
   exact ht hg
end Go.Proofs.YtjobmkodgodloaaGreatDoor.Arw

namespace Go.Proofs.YtjobmkodgodloaaGreatDoor.Arw
open Go.RowKit Go.Proofs Go.Proofs.YtjobmkodgodloaaGreatDoor.Byt Go.Proofs.YtjobmkodgodloaaGreatDoor.Dec Go.Proofs.YtjobmkodgodloaaGreatDoor.Lnm Go.Proofs.YtjobmkodgodloaaGreatDoor.Hdr Go.Proofs.YtjobmkodgodloaaGreatDoor.Arp
open Go.Proofs.YtjobmkodgodloaaGreatDoor.Sls (Fr blk)

theorem ptl_len {x : Mem} (h : herr x = 0) (hl : x.data.length = x.len) : (eout x.name (num x.time x.uid x.gid x.mode (x.len : Int))).length = 60 ∧ (ptl x).length = 60 + x.len + x.len % 2 := by
 obtain ⟨_, _, _, _, _, q6⟩ := mkp_ok (s := x.name) (f := num x.time x.uid x.gid x.mode (x.len : Int)) (d := x.data) h (by rw [hl]; rfl) []
 refine ⟨q6, ?_⟩
 unfold ptl mkp
 rw [List.length_append, List.length_append, q6, hl]
 split
 · rename_i h; rw [List.length_singleton, h]
 · rename_i h; rw [List.length_nil]; omega

end Go.Proofs.YtjobmkodgodloaaGreatDoor.Arw

namespace Go.Proofs.YtjobmkodgodloaaGreatDoor.Arw
open Go.RowKit Go.Proofs Go.Proofs.YtjobmkodgodloaaGreatDoor.Byt Go.Proofs.YtjobmkodgodloaaGreatDoor.Dec Go.Proofs.YtjobmkodgodloaaGreatDoor.Lnm Go.Proofs.YtjobmkodgodloaaGreatDoor.Hdr Go.Proofs.YtjobmkodgodloaaGreatDoor.Arp
open Go.Proofs.YtjobmkodgodloaaGreatDoor.Sls (Fr blk)

end Go.Proofs.YtjobmkodgodloaaGreatDoor.Arw

namespace Go.Proofs.YtjobmkodgodloaaGreatDoor.Arw
open Go.RowKit Go.Proofs Go.Proofs.YtjobmkodgodloaaGreatDoor.Byt Go.Proofs.YtjobmkodgodloaaGreatDoor.Dec Go.Proofs.YtjobmkodgodloaaGreatDoor.Lnm Go.Proofs.YtjobmkodgodloaaGreatDoor.Hdr Go.Proofs.YtjobmkodgodloaaGreatDoor.Arp
open Go.Proofs.YtjobmkodgodloaaGreatDoor.Sls (Fr blk Oth)

theorem sown_oth {t : TypeId} {w w' : World} {K n : Nat} {v : Value} {l : List ByteArray} (h : Sls.Own w K v n l) (ho : Oth t w w') (ht : t ≠ 9) : Sls.Own w' K v n l := by
 refine ⟨h.1, ?_⟩
 rcases h.2 with h | ⟨g, cap, cur, m, hv, hg, hh, r⟩
 · exact .inl h
 · exact .inr ⟨g, cap, cur, m, hv, hg, ho g _ hh (fun cs m' e => by injection e with _ e _; exact ht e.symm), r⟩
theorem bown_oth {t : TypeId} {w w' : World} {K n : Nat} {v : Value} {l : List UInt8} (h : Byt.Own w K v n l) (ho : Oth t w w') (ht : 5 ≠ t) : Byt.Own w' K v n l :=
 Own.cel.2 ((Own.cel.1 h).oth ho ht)

end Go.Proofs.YtjobmkodgodloaaGreatDoor.Arw
