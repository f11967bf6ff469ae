/-
  What is parsed from the archive that is written (mathematics).
-/
import Derived.Test.YtjobmkodgodloaaGreatDoorYWf
namespace Go.Proofs.YtjobmkodgodloaaGreatDoor.Lnm
open Go.RowKit Go.Proofs Go.Proofs.YtjobmkodgodloaaGreatDoor.Byt Go.Proofs.YtjobmkodgodloaaGreatDoor.Str3 Go.Proofs.YtjobmkodgodloaaGreatDoor.Dec

theorem longs_split {ns : List ByteArray} {i : Nat} (hi : i < ns.length) (hl : sht (bts ns[i]) = false) :
   longs ns = longs (ns.take i) ++ (ns[i] :: longs (ns.drop (i + 1))) := by
 conv => lhs; rw [← List.take_append_drop i ns, List.drop_eq_getElem_cons hi]
 rw [longs_append]
 congr 1
 unfold longs
 rw [List.filter_cons, hl]
 rfl

theorem tx_last {n : Nat} {k : Nat} (hk : (tx 10 n).length = k + 1) : ∃ c, (tx 10 n)[k]? = some c ∧ c ≠ 47 := by
 have hlt : k < (tx 10 n).length := by omega
 refine ⟨(tx 10 n)[k], List.getElem?_eq_getElem hlt, fun e => ?_⟩
 have := tx_digits (B := 10) (by omega) (by omega) n _ (List.getElem_mem hlt)
 rw [e] at this
 revert this
 decide

theorem tx_len_15 {n : Nat} (h : n < 1000000) : (tx 10 n).length ≤ 7 := by
 rw [tx_length (by omega)]
 exact nd_le_of_lt (by omega) (by omega) (by omega)

theorem short_dig (n : Nat) : shortOf (47 :: tx 10 n) = none := by
 have h1 := nd_pos 10 n
 rw [← tx_length (by omega)] at h1
 obtain ⟨k, hk⟩ : ∃ k, (tx 10 n).length = k + 1 := ⟨(tx 10 n).length - 1, by omega⟩
 obtain ⟨c, hc, hne⟩ := tx_last hk
 rw [short_iff (k := k + 1) (by rw [List.length_cons, hk]), if_neg]
 rintro ⟨h, _⟩
 rw [List.getElem?_cons_succ, hc] at h
 injection h with h
 exact hne h

theorem resv_field {ns : List ByteArray} {i : Nat} (hv : allV ns = true) (hi : i < ns.length) (hb : (tab (longs ns)).length < 1000000) :
   resv (bts (fld (ns.take i) ns[i])) (tab (longs ns)) = some ns[i] ∧ (fld (ns.take i) ns[i]).size ≤ 16 := by
 cases hs : sht (bts ns[i])
 · have hsp := longs_split hi hs
   have hj : (longs (ns.take i)).length < (longs ns).length := by rw [hsp, List.length_append, List.length_cons]; omega
   have htk : (longs ns).take (longs (ns.take i)).length = longs (ns.take i) := by rw [hsp, List.take_left]
   have hat : (longs ns)[(longs (ns.take i)).length] = ns[i] := by
     have : (longs ns)[(longs (ns.take i)).length]? = some ns[i] := by rw [hsp, List.getElem?_append_right (Nat.le_refl _)]; simp
     rw [List.getElem?_eq_getElem hj] at this
     injection this
   have hlt := (offset_at hj).1
   rw [htk] at hlt
   have h7 := tx_len_15 (n := (tab (longs (ns.take i))).length) (by omega)
   have hf : fld (ns.take i) ns[i] = str ([47] ++ tx 10 (tab (longs (ns.take i))).length) := by unfold fld; rw [if_neg (by rw [hs]; simp)]
   rw [hf, bts_str, str_size]
   refine ⟨?_, by rw [List.length_append]; simp only [List.length_cons, List.length_nil]; omega⟩
   unfold resv
   rw [show [47] ++ tx 10 (tab (longs (ns.take i))).length = 47 :: tx 10 (tab (longs (ns.take i))).length from rfl, short_dig]
   have := long_hit (f := 47 :: tx 10 (tab (longs (ns.take i))).length) (longs_allV hv) hj (by rw [htk]) (by rw [htk]; omega)
   rw [hat] at this
   exact this
 · have hf : fld (ns.take i) ns[i] = str (bts ns[i] ++ [47]) := by unfold fld; rw [if_pos hs]
   have h15 : (bts ns[i]).length ≤ 15 := by unfold sht at hs; simp at hs; exact hs.2.1
   rw [hf, bts_str, str_size]
   refine ⟨?_, by rw [List.length_append]; simp only [List.length_cons, List.length_nil]; omega⟩
   unfold resv
   rw [short_iff (k := (bts ns[i]).length) (by simp), List.take_left, if_pos ⟨by rw [List.getElem?_append_right (Nat.le_refl _)]; simp, hs⟩, str_bts]

end Go.Proofs.YtjobmkodgodloaaGreatDoor.Lnm

namespace Go.Proofs.YtjobmkodgodloaaGreatDoor.Arw
open Go.RowKit Go.Proofs Go.Proofs.YtjobmkodgodloaaGreatDoor.Byt Go.Proofs.YtjobmkodgodloaaGreatDoor.Dec Go.Proofs.YtjobmkodgodloaaGreatDoor.Lnm Go.Proofs.YtjobmkodgodloaaGreatDoor.Hdr Go.Proofs.YtjobmkodgodloaaGreatDoor.Arp

theorem ptl_ok {x : Mem} (he : herr x = 0) (hl : x.len = x.data.length) (r : List UInt8) :
   Arp.perr (ptl x ++ r) = 0 ∧ dname (ptl x ++ r) = x.name ∧ (∀ k, k < 5 → dnum (ptl x ++ r) k = num x.time x.uid x.gid x.mode (x.len : Int) k) ∧ pdata (ptl x ++ r) = x.data ∧ plen (ptl x ++ r) = (ptl x).length ∧ (ptl x).length = pz x.len := by
 obtain ⟨q1, q2, q3, q4, q5, q6⟩ := mkp_ok (s := x.name) (f := num x.time x.uid x.gid x.mode (x.len : Int)) (d := x.data) he (by rw [← hl]; rfl) r
 refine ⟨q1, q2, q3, q4, q5, ?_⟩
 unfold ptl mkp
 rw [List.length_append, List.length_append, q6, ← hl]
 unfold pz
 split
 · rename_i h; rw [List.length_singleton, h]
 · rename_i h; rw [List.length_nil]; omega
theorem ptl_ne {x : Mem} (he : herr x = 0) (hl : x.len = x.data.length) (r : List UInt8) : ptl x ++ r ≠ [] :=
 ne_nil_app (by rw [(ptl_ok he hl []).2.2.2.2.2]; unfold pz; omega)
theorem go_ptl {s : St} {a : Nat} {x : Mem} (he : herr x = 0) (hl : x.len = x.data.length) (r : List UInt8) (h : stepE s (ptl x ++ r) = 0) :
   go s a (ptl x ++ r) = go (stepS s a (ptl x ++ r)) (a + pz x.len) r := by
 obtain ⟨_, _, _, _, q5, q6⟩ := ptl_ok he hl r
 rw [go_on (ptl_ne he hl r) h, q5, q6, ← q6, List.drop_left]

def st0 (hm : Bool) (md : List UInt8) (T : List UInt8) : St := ⟨hm, if hm = true then md else [], [], [], if T.length = 0 then none else some T⟩
theorem st0_tbl (hm : Bool) (md T : List UInt8) : (st0 hm md T).tbl.getD [] = T := by
 show (if T.length = 0 then none else some T : Option (List UInt8)).getD [] = T
 split
 · rename_i h; rw [List.length_eq_zero_iff.1 h]; rfl
 · rfl

theorem go_map {hm : Bool} {md : List UInt8} (hmd : md.length ≤ 1000000) (r : List UInt8) :
   go St.zero 8 (flat (mapP hm none md.length 0 md) ++ r) = go (st0 hm md []) (8 + (if hm = true then pz md.length else 0)) r := by
 cases hm
 · rfl
 · show go St.zero 8 (flat [mpt none md.length 0 md] ++ r) = _
   rw [flat_one]
   obtain ⟨q1, q2, q3, q4, q5, q6⟩ := ptl_ok (x := mpt none md.length 0 md) (herr_map hmd) rfl r
   have hN : dname (ptl (mpt none md.length 0 md) ++ r) = nmMap := q2
   have hE : stepE St.zero (ptl (mpt none md.length 0 md) ++ r) = 0 := by
     unfold stepE
     rw [if_neg (by simp [q1]), if_pos hN, if_pos cnt_zero]
   rw [go_ptl (herr_map hmd) rfl r hE]
   have hS : stepS St.zero 8 (ptl (mpt none md.length 0 md) ++ r) = st0 true md [] := by
     unfold stepS
     rw [if_pos hN, q4]
     rfl
   rw [hS]
   rfl
theorem go_tab {hm : Bool} {md T : List UInt8} (hT : T.length ≤ 1000000) (hg : good T = true) (a : Nat) (r : List UInt8) :
   go (st0 hm md []) a (flat (tabP none T.length 0 T) ++ r) = go (st0 hm md T) (a + (if T.length = 0 then 0 else pz T.length)) r := by
 by_cases h0 : T.length = 0
 · obtain rfl := List.length_eq_zero_iff.1 h0
   rfl
 · rw [show tabP none T.length 0 T = [tpt none T.length 0 T] from if_neg h0, flat_one]
   obtain ⟨q1, q2, q3, q4, q5, q6⟩ := ptl_ok (x := tpt none T.length 0 T) (herr_tab hT) rfl r
   have hN : dname (ptl (tpt none T.length 0 T) ++ r) = nmTab := q2
   have hE : stepE (st0 hm md []) (ptl (tpt none T.length 0 T) ++ r) = 0 := by
     unfold stepE
     rw [if_neg (by simp [q1]), hN, if_neg (by decide), if_pos rfl, q4, if_pos ⟨rfl, hg⟩]
   rw [go_ptl (herr_tab hT) rfl r hE]
   have hS : stepS (st0 hm md []) a (ptl (tpt none T.length 0 T) ++ r) = st0 hm md T := by
     unfold stepS
     rw [hN, if_neg (by decide), if_pos rfl, q4]
     unfold st0
     rw [if_neg h0]
     rfl
   rw [hS, if_neg h0]
   rfl

def stK (hm : Bool) (md T : List UInt8) (o : Nat) (xs : List Mem) (k : Nat) : St :=
 { st0 hm md T with mems := (xs.take k).map Mem.pure, offs := ((List.range k).map (offAt o xs)).map (fun (n : Nat) => (n : Int)) }
theorem fld_map {pre : List ByteArray} {n : ByteArray} (hv : vld (bts n) = true) : fld pre n ≠ nmMap := fun e => by
 have h1 := (vld_iff.1 hv).1
 have h2 : (fld pre n).size = 1 := by rw [e]; rfl
 unfold fld at h2
 split at h2
 · rw [str_size, List.length_append, List.length_singleton] at h2; omega
 · rw [str_size, List.length_append, List.length_singleton, tx_length (by omega)] at h2
   have := nd_pos 10 (tab (longs pre)).length
   omega
theorem go_body {hm : Bool} {md : List UInt8} {xs : List Mem} (hf : ∀ x ∈ xs, fitsM x = 0) (hn : xs.length ≤ 100) (hl : ∀ x ∈ xs, x.len = x.data.length) (o : Nat) :
   ∀ j k, k + j = xs.length → go (stK hm md (bo (nms xs)) o xs k) (offAt o xs k) (flat ((bodyP xs).drop k)) = (stK hm md (bo (nms xs)) o xs xs.length, 0, 0)
 | 0, k, hk => by
   have hk' : k = xs.length := by omega
   subst hk'
   rw [List.drop_eq_nil_of_le (by rw [bodyP_length hf]; exact Nat.le_refl _), flat_nil, go_nil]
 | j + 1, k, hk => by
   have hkl : k < xs.length := by omega
   have hav := nms_allV hf
   have hbo : bo (nms xs) = tab (longs (nms xs)) := if_pos hav
   have hnl : (nms xs).length = xs.length := by simp [nms]
   have hnk : (nms xs)[k]'(by omega) = xs[k].name := by simp [nms]
   have htl := tabl_len hav (k := 100) (by omega)
   have hxl := hl xs[k] (List.getElem_mem hkl)
   have hv := (fitsM_zero (hf xs[k] (List.getElem_mem hkl))).1
   have hh := herr_body hf hn hkl
   rw [List.drop_eq_getElem_cons (by rw [bodyP_length hf]; exact hkl), bodyP_at hf hkl]
   show go _ _ (flat ([_] ++ _)) = _
   rw [flat_append, flat_one]
   have hal : allV ((nms xs).take k) = true := allV_iff.2 fun n hm => allV_iff.1 hav n (List.mem_of_mem_take hm)
   have hl2 := tabl_len hal (k := 100) (by rw [List.length_take]; omega)
   obtain ⟨n1, n2⟩ := fld_ok (pre := (nms xs).take k) hv (by omega)
   have n3 := fld_map (pre := (nms xs).take k) hv
   have n4 : fld ((nms xs).take k) xs[k].name ≠ nmTab := fun e => by rw [e] at n2; revert n2; decide +kernel
   have n5 := (resv_field (i := k) hav (by omega) (by omega)).1
   rw [hnk, ← hbo] at n5
   generalize hp : setN (fld ((nms xs).take k) xs[k].name) xs[k] = p at *
   have hpl : p.len = p.data.length := by rw [← hp]; exact hxl
   obtain ⟨q1, q2, q3, q4, q5, q6⟩ := ptl_ok hh hpl (flat ((bodyP xs).drop (k + 1)))
   have hpn : p.name = fld ((nms xs).take k) xs[k].name := by rw [← hp]; rfl
   rw [hpn] at q2
   have hT : (stK hm md (bo (nms xs)) o xs k).tbl.getD [] = bo (nms xs) := st0_tbl hm md (bo (nms xs))
   have hpna : pname (stK hm md (bo (nms xs)) o xs k) (ptl p ++ flat ((bodyP xs).drop (k + 1))) = some xs[k].name := by
     unfold pname
     rw [q2, hT, n5]
   have hE : stepE (stK hm md (bo (nms xs)) o xs k) (ptl p ++ flat ((bodyP xs).drop (k + 1))) = 0 := by
     unfold stepE
     rw [if_neg (by simp [q1]), q2, if_neg n3, if_neg n4, hpna]
     rfl
   rw [go_ptl hh hpl _ hE]
   have hS : stepS (stK hm md (bo (nms xs)) o xs k) (offAt o xs k) (ptl p ++ flat ((bodyP xs).drop (k + 1))) = stK hm md (bo (nms xs)) o xs (k + 1) := by
     unfold stepS
     rw [q2, if_neg n3, if_neg n4, hpna, q4, q3 0 (by omega), q3 1 (by omega), q3 2 (by omega), q3 3 (by omega)]
     unfold stK
     rw [List.take_succ_eq_append_getElem hkl, List.range_succ, List.map_append, List.map_append, List.map_append, ← hp]
     rfl
   have hO : offAt o xs k + pz p.len = offAt o xs (k + 1) := by rw [offAt_succ hkl, ← hp]; rfl
   rw [hS, hO]
   exact go_body hf hn hl o j (k + 1) (by omega)

theorem ar_arch {hm : Bool} {md : List UInt8} {xs : List Mem} (hmd : md.length ≤ 1000000) (hf : ∀ x ∈ xs, fitsM x = 0) (hn : xs.length ≤ 100) (hl : ∀ x ∈ xs, x.len = x.data.length) :
   ar (arch hm md xs) = (⟨hm, if hm = true then md else [], xs.map Mem.pure, (offL (base hm md.length xs) xs).map (fun (n : Nat) => (n : Int)), if (bo (nms xs)).length = 0 then none else some (bo (nms xs))⟩, 0, 0) := by
 have hav := nms_allV hf
 have hbo : bo (nms xs) = tab (longs (nms xs)) := if_pos hav
 have hT := bo_len (nms xs)
 have hnl : (nms xs).length = xs.length := by simp [nms]
 have hg : good (bo (nms xs)) = true := by rw [hbo]; exact (good_of_tab (longs_allV hav)).1
 have h8 : isAr (arch hm md xs) = true := by
   unfold isAr arch
   rw [Bool.and_eq_true, decide_eq_true_eq]
   exact ⟨by rw [List.length_append]; simp [Arp.magic], by rw [List.take_left' (show Arp.magic.length = 8 from rfl)]; rfl⟩
 rw [ar_go h8]
 have hd : (arch hm md xs).drop 8 = flat (mapP hm none md.length 0 md) ++ (flat (tabP none (bo (nms xs)).length 0 (bo (nms xs))) ++ flat (bodyP xs)) := by
   unfold arch
   rw [List.drop_left' (show Arp.magic.length = 8 from rfl)]
 rw [hd, go_map hmd, go_tab (by omega) hg]
 have hb : 8 + (if hm = true then pz md.length else 0) + (if (bo (nms xs)).length = 0 then 0 else pz (bo (nms xs)).length) = base hm md.length xs := rfl
 rw [hb]
 have := go_body (hm := hm) (md := md) hf hn hl (base hm md.length xs) xs.length 0 (by omega)
 rw [List.drop_zero] at this
 have h0 : stK hm md (bo (nms xs)) (base hm md.length xs) xs 0 = st0 hm md (bo (nms xs)) := rfl
 have h1 : offAt (base hm md.length xs) xs 0 = base hm md.length xs := by simp [offAt]
 rw [h0, h1] at this
 rw [this]
 unfold stK st0 offL
 rw [List.take_length]
end Go.Proofs.YtjobmkodgodloaaGreatDoor.Arw
