/-
  What was parsed from any bytes can be written (mathematics).
-/
import Derived.Test.YtjobmkodgodloaaGreatDoorYWr
import Derived.Test.YtjobmkodgodloaaGreatDoorYWp
namespace Go.Proofs.YtjobmkodgodloaaGreatDoor.Arw
open Go.RowKit Go.Proofs Go.Proofs.YtjobmkodgodloaaGreatDoor.Byt Go.Proofs.YtjobmkodgodloaaGreatDoor.Dec Go.Proofs.YtjobmkodgodloaaGreatDoor.Lnm Go.Proofs.YtjobmkodgodloaaGreatDoor.Hdr Go.Proofs.YtjobmkodgodloaaGreatDoor.Arp

theorem okF_false {tab : Bool} {k : Nat} {n : Int} (h : okF tab k n = true) : okF false k n = true := by
 unfold okF at h ⊢
 rw [if_neg (by simp)]
 split at h
 · have h0 : n = 0 := by simpa using h
   subst h0
   have h1 : nd (bs k) 0 = 1 := nd_small (by have := (bs_2 k).1; omega)
   have h2 := (wd_18 k).1
   simp [h1, h2]
 · exact h
theorem dnum_ok {l : List UInt8} (h : derr l = 0) {k : Nat} (hk : k < 5) : okF false k (dnum l k) = true := by
 obtain ⟨hl, _, _, hr⟩ := derr_ok h
 obtain ⟨x, hx⟩ := allRd_at 5 hk hr
 have h1 := (fldF_rdF (part_length hl k hk) hx).1
 have h2 : dnum l k = (x : Int) := by
   unfold dnum
   rw [if_pos h, hx]
   rfl
 rw [h2]
 exact okF_false h1
theorem allOk_five {s : ByteArray} {f : Nat → Int} (hs : isTab s = false) (h : ∀ k, k < 5 → okF false k (f k) = true) : ∀ k, k ≤ 5 → allOk s f k = true
 | 0, _ => rfl
 | k + 1, hk => by
   unfold allOk
   rw [allOk_five hs h k (by omega), hs, h k (by omega)]
   rfl
theorem fits_parsed {l : List UInt8} {t : St} {k : Nat} (h : ar l = (t, k, 0)) {xs : List Mem} (hx : xs.map Mem.pure = t.mems) (hl : ∀ x ∈ xs, x.len = x.data.length) : ∀ x ∈ xs, fitsM x = 0 ∧ x.name.size ≤ 255 ∧ x.time < 9223372036854775808 ∧ x.uid < 9223372036854775808 ∧ x.gid < 9223372036854775808 ∧ x.mode < 9223372036854775808 := fun x hm => by
 obtain ⟨_, _, hf, _⟩ := ar_fit h
 obtain ⟨i, hi, rfl⟩ := List.mem_iff_getElem.1 hm
 have hp : t.mems[i]? = some xs[i].pure := by rw [← hx, List.getElem?_map, List.getElem?_eq_getElem hi]; rfl
 obtain ⟨p, _, _, hpe, _, q0, q1, q2, q3, q4, q5⟩ := hf i _ hp
 have hd := (perr_ok hpe).1
 have hlen := hl xs[i] hm
 have hz : (xs[i].len : Int) = dnum (l.drop p) 4 := by
   rw [hlen, show xs[i].data = pdata (l.drop p) from q4, pdata_length hpe, psz_int]
 have hok : ∀ k, k < 5 → okF false k (num xs[i].time xs[i].uid xs[i].gid xs[i].mode (xs[i].len : Int) k) = true := fun k hk => by
   have hk' : k = 0 ∨ k = 1 ∨ k = 2 ∨ k = 3 ∨ k = 4 := by omega
   rcases hk' with rfl | rfl | rfl | rfl | rfl
   · show okF false 0 xs[i].time = true
     rw [show xs[i].time = dnum (l.drop p) 0 from q0]; exact dnum_ok hd (by omega)
   · show okF false 1 xs[i].uid = true
     rw [show xs[i].uid = dnum (l.drop p) 1 from q1]; exact dnum_ok hd (by omega)
   · show okF false 2 xs[i].gid = true
     rw [show xs[i].gid = dnum (l.drop p) 2 from q2]; exact dnum_ok hd (by omega)
   · show okF false 3 xs[i].mode = true
     rw [show xs[i].mode = dnum (l.drop p) 3 from q3]; exact dnum_ok hd (by omega)
   · show okF false 4 (xs[i].len : Int) = true
     rw [hz]; exact dnum_ok hd (by omega)
 have n1 : nameOk ⟨#[47, 48]⟩ = true := by decide +kernel
 have n2 : isTab ⟨#[47, 48]⟩ = false := by decide +kernel
 have b0 := dnum_lt (l.drop p) 0 (by omega)
 have b1 := dnum_lt (l.drop p) 1 (by omega)
 have b2 := dnum_lt (l.drop p) 2 (by omega)
 have b3 := dnum_lt (l.drop p) 3 (by omega)
 have e0 : xs[i].time = dnum (l.drop p) 0 := q0
 have e1 : xs[i].uid = dnum (l.drop p) 1 := q1
 have e2 : xs[i].gid = dnum (l.drop p) 2 := q2
 have e3 : xs[i].mode = dnum (l.drop p) 3 := q3
 refine ⟨?_, (vld_size q5).2, by omega, by omega, by omega, by omega⟩
 unfold fitsM
 rw [if_pos (show vld (bts xs[i].name) = true from q5)]
 exact (eerr_0 n1 (allOk_five n2 hok 5 (Nat.le_refl _))).1
end Go.Proofs.YtjobmkodgodloaaGreatDoor.Arw
