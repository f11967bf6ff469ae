/-
  ConsistComplete, from the program's contracts: the complete archive of members that fit is consistent; with another map, an archive of the same members is consistent exactly if the map is the encoding of the actual index.
-/
import Derived.Test.YtjobmkodgodloaaGreatDoorYCg
import Derived.Test.YtjobmkodgodloaaGreatDoorYAf
import Derived.Test.YtjobmkodgodloaaGreatDoorYWs
namespace Go.Proofs.YtjobmkodgodloaaGreatDoor.Con
open Go.RowKit Go.Proofs Go.Proofs.YtjobmkodgodloaaGreatDoor.Byt
open Go.Proofs.YtjobmkodgodloaaGreatDoor.Lnm (Gnd)
open Go.Proofs.YtjobmkodgodloaaGreatDoor.Arp (Mem St Pm ar Arc RdM OwnM mcells)
open Go.Proofs.YtjobmkodgodloaaGreatDoor.Arw (RdM0 fewM fewM_iff fitL MOk arch)
open Go.Proofs.YtjobmkodgodloaaGreatDoor.Six (Few cOut)
open Go.Proofs.YtjobmkodgodloaaGreatDoor.Amp (encA)
open Go.Proofs.YtjobmkodgodloaaGreatDoor.Frame (MB)

structure Arg9 (w : World) (K : Nat) (A : Option Addr) (n : Nat) (xs : List Mem) : Prop where
 rd : RdM w K A n xs
 hK : K ≤ w.heap.size
 few : Few xs
 cap : ∀ x ∈ xs, x.len ≤ x.cap ∧ x.cap ≤ maxLen
theorem Arg9.on {w w' : World} {K n : Nat} {A : Option Addr} {xs : List Mem} (h : Arg9 w K A n xs) (hb : Below w.heap.size w w') : Arg9 w' K A n xs :=
 ⟨h.rd.below (hb.mono h.hK), Nat.le_trans h.hK hb.size, h.few, h.cap⟩
theorem Arg9.n20 {w : World} {K n : Nat} {A : Option Addr} {xs : List Mem} (h : Arg9 w K A n xs) : n ≤ 20 := by rw [← h.rd.1]; exact h.few.n
theorem arg9_of {w w' : World} {A : Option Addr} {n : Nat} {xs : List Mem} (h : RdM0 w w.heap.size A n xs) (hb : Below w.heap.size w w') (hB : ∀ x ∈ xs, MB x) (hf : fewM xs = true) : Arg9 w' w.heap.size A n xs := by
 obtain ⟨h1, h2, h3⟩ := fewM_iff.1 hf
 have hd : ∀ x ∈ xs, x.data.length = x.len := fun x hx => by
   obtain ⟨k, hk, rfl⟩ := List.mem_iff_getElem.1 hx
   exact (h.2 k hk).2.1
 exact ⟨(h.to fun x hx => (h3 x hx).2).below hb, hb.size, ⟨h1, fun x hx => (hB x hx).ok (h3 x hx).1 (h3 x hx).2, hd, h2⟩, fun x hx => (hB x hx).cap⟩

set_option linter.unusedSimpArgs false in
set_option maxRecDepth 100000 in
set_option maxHeartbeats 16000000 in
theorem complete9 (P : PC9) (w : World) (hG : Gnd w) (A : Option Addr) (n c : Nat) (xs : List Mem) (h : RdM0 w w.heap.size A n xs) (_hnc : n ≤ c) (_hc : c ≤ maxLen) (hB : ∀ x ∈ xs, MB x) (D : Option Addr) (dn dc : Nat) (md : List UInt8) (hr : Byt.Rd w w.heap.size D dn md) (_hdc : dn ≤ dc) (_hdm : dc ≤ maxLen) :
   Calls Tryz.prog 4 #[.slice A n c, .slice D dn dc] w fun e w' => e = .returned (.bool true) ∧ Below w.heap.size w w' := by
 have HP := hid P
 have HB := hid hB
 have HR := hid hr
 have Hg := hid hG
 clear hB hr hG
 go_enter Tryz.func4, Tryz.ntmps4
 go_wp2_with fail
 refine (awake9_any HP.out w Hg.out).mono ?_
 rintro e w1 ⟨rfl, B1⟩
 have hK1 := B1.size
 go_wp2_with fail
 refine (Arw.few5_any w.heap.size A n c xs w1 (h.below B1) hK1).mono ?_
 rintro e w2 ⟨rfl, hb2⟩
 have B2 := B1.trans (hb2.mono hK1)
 clear hb2 B1 hK1
 cases hf : fewM xs
 · go_wp2_with fail
   refine (awake9_any HP.out w2 (Hg.out.on B2)).mono ?_
   rintro e w9 ⟨rfl, hb9⟩
   go_wp2_with fail
   go_ret
   exact ⟨rfl, B2.trans (hb9.mono B2.size)⟩
 by_cases hd5 : 1000 < dn
 · have hd5i : (1000 : Int) < (dn : Int) := by omega
   clear hf
   go_wp2_with fail
   refine (awake9_any HP.out w2 (Hg.out.on B2)).mono ?_
   rintro e w9 ⟨rfl, hb9⟩
   go_wp2_with fail
   go_ret
   exact ⟨rfl, B2.trans (hb9.mono B2.size)⟩
 have hd5i : ¬ (1000 : Int) < (dn : Int) := by omega
 have aL := arg9_of h B2 HB.out hf
 have hn20 := aL.n20
 clear hf
 go_wp2_with fail
 refine (Six.rcomplete_any w.heap.size A n c xs w2 aL.rd aL.hK aL.few (fun x hx => (aL.cap x hx).1)).mono ?_
 rintro e w3 hC
 obtain ⟨A3, n3, c3, A4, n4, c4, A5, n5, c5, rfl, hn3, r3, hc3, hm3, _, hb3⟩ := rcomp_owns hC
 have B3 := B2.trans (hb3.mono B2.size)
 have aL3 := aL.on hb3
 have hn3b : n3 < 100000 := by rw [hn3]; have := aL.few.clen; omega
 clear hC hb3 B2 aL hn3
 obtain ⟨f, hf⟩ : ∃ f, (fitL 0 xs).2 = f := ⟨_, rfl⟩
 have HFf := hid hf
 rw [hf]
 clear hf
 by_cases hf0 : ¬ f = 0
 · have hfb : (f != 0) = true := by simpa using hf0
   clear hf0
   go_wp2_with fail
   go_ret
   exact ⟨rfl, B3⟩
 have hf1 := Decidable.not_not.1 hf0
 have hfb : (f != 0) = false := by rw [hf1]; rfl
 have H0 : Hid ((fitL 0 xs).2 = 0) := hid (HFf.out.trans hf1)
 clear hf0 hf1 HFf
 obtain ⟨mp, tt, hoc⟩ := opn_complete aL3.few H0.out
 have HOC := hid hoc
 clear hoc
 go_wp2_with fail
 refine (HP.out.open_ A3 n3 c3 (cOut xs) w3 (Hg.out.on B3) r3 hc3 hm3 hn3b).mono ?_
 rintro e w4 hO
 obtain ⟨V1, rfl, hi1, rV1, _, _, hb4⟩ := hO.at HOC.out
 obtain ⟨p1, p2, p3, p4, p5, p6, p7, p8⟩ := V1
 have HI1a : Hid (p4.map Mem.pure = xs.map Mem.pure) := hid hi1.1
 have Hl := hid aL3.rd.1
 have hp6 : p6 = n := by
   have h1 : p8.length = p6 := rV1.2.1.1
   have h2 : p8 = defsP (xs.map Mem.pure) := hi1.2
   rw [← h1, h2]
   simp [defsP, Hl.out]
 subst hp6
 simp only [Vw.val]
 have hbA := (Below.refl w4.heap.size w4).alloc (Nat.le_refl _) (.cells #[.slice p1 p2 p3, .slice p5 p6 p7] 27)
 have hrA := heap_alloc_new w4 (.cells #[.slice p1 p2 p3, .slice p5 p6 p7] 27)
 have hsA := World.size_alloc w4 (.cells #[.slice p1 p2 p3, .slice p5 p6 p7] 27)
 have hb35 := hb4.trans (hbA.mono hb4.size)
 have rM5 := (rV1.1.below hbA).more hbA.size
 have hp2 : p2 ≤ 140737488355328 := rV1.2.2.1
 clear hO hi1 rV1 hb4 r3 hc3 hm3 hn3b
 go_upto_region 7 with fail
 generalize w4.alloc (.cells #[.slice p1 p2 p3, .slice p5 p6 p7] 27) = w5 at *
 have B5 := B3.trans (hb35.mono B3.size)
 have aL5 := aL3.on hb35
 have hg4 : w4.heap.size < w5.heap.size := by omega
 obtain ⟨g, hg⟩ : ∃ g, w4.heap.size = g := ⟨_, rfl⟩
 rw [hg] at hrA hg4 ⊢
 have HRA := hid hrA
 have d0 := cell_of_row _ g 0 _ _ _ hrA
 have d1 := cell_of_row _ g 1 _ _ _ hrA
 have HS := hid (Arp.rsamemembers_any w5.heap.size p1 A p2 p3 p6 c p4 xs w5 rM5 (aL5.rd.more aL5.hK) (Nat.le_refl _) hp2)
 rw [Arp.sameMs_pure HI1a.out] at HS
 have hnn : ((p6 : Int) != (p6 : Int)) = false := by simp
 clear hbA hrA hsA hb35 B3 aL3 hg rM5
 go_wp2_with fail
 refine HS.out.mono ?_
 rintro e w6 ⟨rfl, hb6⟩
 have B6 := B5.trans (hb6.mono B5.size)
 have aL6 := aL5.on hb6
 have d1 := cell_of_row _ g 1 _ _ _ ((hb6.block g hg4).trans HRA.out)
 clear hb6 B5 aL5 HS HRA hg4 d0
 go_wp2_with fail
 clear d1
 have HW := hid (Arw.rwrite_any true D dn dc md w.heap.size w.heap.size A p6 c xs w6 (HR.out.below B6) B6.size (by omega) aL6.rd aL6.hK aL6.few.ok hn20)
 refine HW.out.mono ?_
 rintro e w7 ⟨v7, A8, n8, c8, rfl, ho7, _, hb7⟩
 have ew : Arw.wout true md xs = arch true md xs := if_pos H0.out
 rw [ew] at ho7
 obtain ⟨A7, c7, rfl, r7, hc7, hm7⟩ := ho7.reads
 have hml : Hid (md.length = dn) := hid HR.out.1
 have hn7 : (arch true md xs).length ≤ 90000 := Nat.le_trans (Arw.arch_len ((Arw.fitL_zero 0 xs).1 H0.out) aL6.few.n aL6.few.ok aL6.few.len (by rw [hml.out]; omega)) (by omega)
 have B7 := B6.trans (hb7.mono B6.size)
 have aL7 := aL6.on hb7
 have Hn7 := hid hn7
 have hA := ar_of aL7.few H0.out true (md := md) (by rw [hml.out]; omega)
 have hOM := opn_map aL7.few H0.out (md := md) (by rw [hml.out]; omega)
 have HA := hid hA
 have HOM := hid hOM
 have r7' := hid r7
 clear HW ho7 ew hb7 B6 aL6 hn7 hA hOM r7
 generalize arch true md xs = La at *
 generalize hlna : La.length = na at *
 generalize (fitL 0 xs).2 = fz at *
 clear hlna
 obtain ⟨t2, har⟩ := HA.out
 rw [if_pos rfl] at har
 have HAR := hid har
 clear har
 go_wp2_with fail
 refine (Arp.rparse_any A7 na c7 La w7 r7'.out hc7 (by have := Hn7.out; omega)).mono ?_
 rintro e w8 ⟨X, rfl, hx, ho, hb8⟩
 rw [HAR.out] at hx ⊢
 simp only at hx ⊢
 have hAA := argA_of ho hx HAR.out (by have := r7'.out.1; have := Hn7.out; omega)
 have hes := aentsX_is hx
 rw [aidx_of] at hes
 obtain ⟨xh, mp', mn, mc, xm, ap, an, ac, xms, op, on, oc, xos⟩ := X
 simp only [Arp.Arc.val]
 have hbA := (Below.refl w8.heap.size w8).alloc (Nat.le_refl _) (.cells #[.bool xh, .slice mp' mn mc, .slice ap an ac, .slice op on oc] 41)
 have hrA := heap_alloc_new w8 (.cells #[.bool xh, .slice mp' mn mc, .slice ap an ac, .slice op on oc] 41)
 have hsA := World.size_alloc w8 (.cells #[.bool xh, .slice mp' mn mc, .slice ap an ac, .slice op on oc] 41)
 have hb79 := hb8.trans (hbA.mono hb8.size)
 have hAA9 := hAA.on hbA
 clear ho hx hb8 hAA HAR HA
 go_upto_region 11 with fail
 generalize w8.alloc (.cells #[.bool xh, .slice mp' mn mc, .slice ap an ac, .slice op on oc] 41) = w9 at *
 have B9 := B7.trans (hb79.mono B7.size)
 have aL9 := aL7.on hb79
 have r79 := hid (r7'.out.below hb79)
 have k79 := hb79.size
 obtain ⟨g', hg'⟩ : ∃ g', w8.heap.size = g' := ⟨_, rfl⟩
 rw [hg'] at hrA ⊢
 have d0 := cell_of_row _ g' 0 _ _ _ hrA
 have d1 := cell_of_row _ g' 1 _ _ _ hrA
 have d2 := cell_of_row _ g' 2 _ _ _ hrA
 have d3 := cell_of_row _ g' 3 _ _ _ hrA
 have HI := hid (rindex_any _ _ w9 hAA9)
 rw [hes] at HI
 simp only [Arp.Arc.val] at HI
 have HFit := hid (idxM_fit aL9.few (hm := true) (ms := md.length) (by rw [hml.out]; omega))
 have HSm := hid (idxM_small aL9.few true md.length)
 have HNm : Hid (∀ e ∈ idxM true md.length xs, e.name.size ≤ 255) := hid fun e he => by
   obtain ⟨q, _, _, _, h4⟩ := Six.entsF_mem he
   exact (Six.defs_ok h4).2
 have HSz : Hid ((encA (idxM true md.length xs)).length ≤ 5004) := hid (by rw [idxM_size]; exact aL9.few.names)
 generalize idxM true md.length xs = es at *
 clear hbA hrA hsA hb79 B7 aL7 r7' hes hAA9 hg'
 go_wp2_with fail
 refine HI.out.mono ?_
 rintro e wa hE
 obtain ⟨Aa, na', ca, rfl, hna, ra, _, _, hba⟩ := hE.reads
 have Ba := B9.trans (hba.mono B9.size)
 have r7a := hid (r79.out.below (hba.mono k79))
 have hna' : na' ≤ 1000 := by rw [hna]; exact HSm.out
 have kba := hba.size
 clear hE hba B9 aL9 r79 HI d0 d1 d2 d3 hna
 go_wp2_with fail
 refine (Amp.rencA_any wa.heap.size Aa na' ca es wa ra (Nat.le_refl _) hna' (fun e he => by have := HNm.out e he; omega)).mono ?_
 rintro e wb hEn
 obtain ⟨Ab, nb, cb, rfl, hnb, _, rb, _, _, hbb⟩ := hEn.ok HFit.out
 have Bb := Ba.trans (hbb.mono Ba.size)
 have r7b := (r7a.out.below (hbb.mono (by omega))).more (K' := wb.heap.size) (by have := hbb.size; omega)
 clear hEn hbb Ba r7a ra hnb
 have hmdb := HR.out.below Bb
 have hdn1 : dn ≤ 140737488355328 := by omega
 have kBb := Bb.size
 rcases HOM.out with ⟨hme, t3, hop⟩ | ⟨hme, z, hz, hop⟩
 · have HOP := hid hop
   have HME := hid hme
   clear hop hme
   go_wp2_with fail
   refine (HP.out.open_ A7 na c7 La wb (Hg.out.on Bb) r7b hc7 hm7 (by have := Hn7.out; omega)).mono ?_
   rintro e wc hO
   obtain ⟨V2, rfl, _, _, _, _, hbc⟩ := hO.at HOP.out
   obtain ⟨q1, q2, q3, _, q5, q6, q7, _⟩ := V2
   simp only [Vw.val]
   have hbA := (Below.refl wc.heap.size wc).alloc (Nat.le_refl _) (.cells #[.slice q1 q2 q3, .slice q5 q6 q7] 27)
   have hbbd := hbc.trans (hbA.mono hbc.size)
   clear hO hbA hbc r7b
   go_upto_region 13 with fail
   generalize wc.alloc (.cells #[.slice q1 q2 q3, .slice q5 q6 q7] 27) = wd at *
   have Bd := Bb.trans (hbbd.mono Bb.size)
   have hmd' := hmdb.below (hbbd.mono kBb)
   have rbd := rb.below hbbd
   generalize wc.heap.size = gc at *
   have HT := hid (Dec.same_any 25 rfl w.heap.size wb.heap.size D Ab dn dc nb cb md _ wd hmd' rbd hdn1)
   rw [show (md == encA es) = true from by rw [beq_iff_eq]; exact HME.out] at HT
   clear hbbd Bb rb rbd hmdb hmd' HME
   go_wp2_with fail
   refine HT.out.mono ?_
   rintro e we ⟨rfl, m, rfl⟩
   go_wp2_with fail
   go_ret
   exact ⟨rfl, Bd.trans (Dec.below_drewN wd m |>.mono Bd.size)⟩
 · have HOP := hid hop
   have HME := hid hme
   have HZ := hid hz
   clear hop hme hz
   go_wp2_with fail
   refine (HP.out.open_ A7 na c7 La wb (Hg.out.on Bb) r7b hc7 hm7 (by have := Hn7.out; omega)).mono ?_
   rintro e wc hO
   obtain ⟨V2, rfl, _, _, _, _, hbc⟩ := hO.at HOP.out
   obtain ⟨q1, q2, q3, _, q5, q6, q7, _⟩ := V2
   simp only [Vw.val]
   have hbA := (Below.refl wc.heap.size wc).alloc (Nat.le_refl _) (.cells #[.slice q1 q2 q3, .slice q5 q6 q7] 27)
   have hbbd := hbc.trans (hbA.mono hbc.size)
   clear hO hbA hbc r7b
   go_upto_region 13 with fail
   generalize wc.alloc (.cells #[.slice q1 q2 q3, .slice q5 q6 q7] 27) = wd at *
   have Bd := Bb.trans (hbbd.mono Bb.size)
   have hmd' := hmdb.below (hbbd.mono kBb)
   have rbd := rb.below hbbd
   generalize wc.heap.size = gc at *
   have HT := hid (Dec.same_any 25 rfl w.heap.size wb.heap.size D Ab dn dc nb cb md _ wd hmd' rbd hdn1)
   rw [show (md == encA es) = false from by rw [beq_eq_false_iff_ne]; exact HME.out] at HT
   clear hbbd Bb rb rbd hmdb hmd' HME HOP
   rcases HZ.out with rfl | rfl
   · clear HZ
     go_wp2_with fail
     refine HT.out.mono ?_
     rintro e we ⟨rfl, m, rfl⟩
     go_wp2_with fail
     go_ret
     exact ⟨rfl, Bd.trans (Dec.below_drewN wd m |>.mono Bd.size)⟩
   · clear HZ
     go_wp2_with fail
     refine HT.out.mono ?_
     rintro e we ⟨rfl, m, rfl⟩
     go_wp2_with fail
     go_ret
     exact ⟨rfl, Bd.trans (Dec.below_drewN wd m |>.mono Bd.size)⟩
end Go.Proofs.YtjobmkodgodloaaGreatDoor.Con
