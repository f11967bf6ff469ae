/-
  ConsistDamaged, from the program's contracts: a consistent archive with definitions is not consistent without its map, nor if the data of a member with definitions is replaced by other data of the same length.
-/
import Derived.Test.YtjobmkodgodloaaGreatDoorYCm
namespace Go.Proofs.YtjobmkodgodloaaGreatDoor.Con
open Go.RowKit Go.Proofs Go.Proofs.YtjobmkodgodloaaGreatDoor.Byt
open Go.Proofs.YtjobmkodgodloaaGreatDoor.Lnm (Gnd)
open Go.Proofs.YtjobmkodgodloaaGreatDoor.Arp (Mem St Pm ar Arc RdM OwnM mcells)
open Go.Proofs.YtjobmkodgodloaaGreatDoor.Arw (RdM0 fewM fewM_iff fitL MOk arch core)
open Go.Proofs.YtjobmkodgodloaaGreatDoor.Six (Few cOut defs idx namesM rdm_cell rdefs_any)
open Go.Proofs.YtjobmkodgodloaaGreatDoor.Amp (encA)
open Go.Proofs.YtjobmkodgodloaaGreatDoor.Frame (MB)

theorem cel_ne {t : TypeId} {sz : Nat} {V W : World} {K n c : Nat} {A : Option Addr} {cs : List Value} (h : Cel.Own t sz V K (.slice A n c) n cs) (hk : ∀ b o s, A = some ⟨b, o, s⟩ → W.heap[b]? = V.heap[b]?) : Cel.Own t sz W K (.slice A n c) n cs := by
 refine ⟨h.1, ?_⟩
 rcases h.2 with h | ⟨g, cap, cur, m, hv, hg, hh, r⟩
 · exact .inl h
 · refine .inr ⟨g, cap, cur, m, hv, hg, ?_, r⟩
   injection hv with hv _ _
   rw [hk g 0 none hv]
   exact hh
theorem rows_ne {t : TypeId} {sz : Nat} {V : World} {K K' n c n' c' : Nat} {A B : Option Addr} {cs : List Value} {l : List UInt8} (ht : t ≠ 5) (h : Cel.Own t sz V K (.slice A n c) n cs) (hd : Byt.Own V K' (.slice B n' c') n' l) :
   ∀ b o s b' o' s', A = some ⟨b, o, s⟩ → B = some ⟨b', o', s'⟩ → b ≠ b' := fun b o s b' o' s' e e' q => by
 rcases h.2 with ⟨h1, _⟩ | ⟨g, cap, cur, m, hv, hg, hh, r⟩
 · injection h1 with h1 _ _
   rw [e] at h1
   cases h1
 · rcases hd.2 with ⟨h1, _⟩ | ⟨g', cap', cur', m', hv', hg', hh', r'⟩
   · injection h1 with h1 _ _
     rw [e'] at h1
     cases h1
   · injection hv with hv _ _
     injection hv' with hv' _ _
     rw [e] at hv
     rw [e'] at hv'
     injection hv with hv
     injection hv with hv _ _
     injection hv' with hv'
     injection hv' with hv' _ _
     subst hv hv' q
     rw [hh] at hh'
     injection hh' with hh'
     injection hh' with _ q _
     exact ht q
theorem zero_step {i : Nat} {d : List UInt8} (hi : i < d.length) : (zeros i ++ d.drop i).set i 0 = zeros (i + 1) ++ d.drop (i + 1) := by
 have e : d.drop i = d[i] :: d.drop (i + 1) := List.drop_eq_getElem_cons hi
 rw [e, List.set_append_right _ _ (by simp [zeros])]
 have : i - (zeros i).length = 0 := by simp [zeros]
 rw [this, List.set_cons_zero]
 unfold zeros
 rw [List.replicate_succ', List.append_assoc]
 rfl
theorem rd_zap {V W : World} {K n c : Nat} {A : Option Addr} {ys : List Mem} (hO : Cel.Own 64 6 V K (.slice A n c) n (mcells ys)) (hD : OwnM V K ys) (hS : Sep V ys) {k : Nat} (hk : k < ys.length)
   (hz : Byt.Own W K (.slice ys[k].ptr ys[k].len ys[k].cap) ys[k].len (zeros ys[k].len)) (hne : ∀ g, (∀ o s, ys[k].ptr ≠ some ⟨g, o, s⟩) → W.heap[g]? = V.heap[g]?) (hs : ∀ y ∈ ys, y.len ≤ 140737488355328) :
   RdM W W.heap.size A n (ys.set k (Mem.zap ys[k] (zeros ys[k].len))) := by
 refine Arw.rdM_own (K := K) (c := c) ?_ ?_ ?_
 · rw [mcells_zap]
   exact cel_ne hO fun b o s e => hne b fun o' s' e' => rows_ne (by decide) hO (hD _ (List.getElem_mem hk)) b o s b o' s' e e' rfl
 · intro y hy
   obtain ⟨j, hj, rfl⟩ := List.mem_iff_getElem.1 hy
   have hj' : j < ys.length := by simpa using hj
   by_cases hjk : k = j
   · subst hjk
     rw [List.getElem_set_self]
     exact hz
   · rw [List.getElem_set_ne hjk]
     refine own_ne (hD _ (List.getElem_mem hj')) fun b o s e => hne b fun o' s' e' => ?_
     have hp := List.pairwise_iff_getElem.1 hS.2
     rcases Nat.lt_or_gt_of_ne hjk with q | q
     · exact hp k j hk hj' q b o' s' b o s e' e rfl
     · exact hp j k hj' hk q b o s b o' s' e e' rfl
 · intro y hy
   rcases List.mem_or_eq_of_mem_set hy with hy | rfl
   · exact hs y hy
   · show ys[k].len ≤ _
     exact hs _ (List.getElem_mem hk)

set_option linter.unusedSimpArgs false in
set_option maxRecDepth 100000 in
set_option maxHeartbeats 16000000 in
theorem damaged9 (P : PC9) (w : World) (hG : Gnd w) (A : Option Addr) (n c : Nat) (xs : List Mem) (h : RdM0 w w.heap.size A n xs) (_hnc : n ≤ c) (_hc : c ≤ maxLen) (hB : ∀ x ∈ xs, MB x) (a : Nat) (ha : a < 256) :
   Calls Tryz.prog 5 #[.slice A n c, .int .u8 (a : Int)] w fun e w' => e = .returned (.bool true) ∧ Below w.heap.size w w' := by
 have HP := hid P
 have HB := hid hB
 have Hg := hid hG
 clear hB hG
 go_enter Tryz.func5, Tryz.ntmps5
 go_wp2_with fail
 refine (awake9_any HP.out w Hg.out).mono ?_
 rintro e w1 ⟨rfl, B1⟩
 have hK1 := B1.size
 go_wp2_with fail
 refine (Arw.few5_any w.heap.size A n c xs w1 (h.below B1) hK1).mono ?_
 rintro e w2 ⟨rfl, hb2⟩
 have B2 := B1.trans (hb2.mono hK1)
 clear hb2 B1 hK1
 cases hf : fewM xs
 · go_wp2_with fail
   refine (awake9_any HP.out w2 (Hg.out.on B2)).mono ?_
   rintro e w9 ⟨rfl, hb9⟩
   go_wp2_with fail
   go_ret
   exact ⟨rfl, B2.trans (hb9.mono B2.size)⟩
 have aL := arg9_of h B2 HB.out hf
 have hn20 := aL.n20
 clear hf
 go_wp2_with fail
 refine (Six.rcomplete_any w.heap.size A n c xs w2 aL.rd aL.hK aL.few (fun x hx => (aL.cap x hx).1)).mono ?_
 rintro e w3 hC
 obtain ⟨A3, n3, c3, A4, n4, c4, A5, n5, c5, rfl, _, _, _, _, rI, hb3⟩ := rcomp_owns hC
 have B3 := B2.trans (hb3.mono B2.size)
 have aL3 := aL.on hb3
 clear hC hb3 B2 aL
 obtain ⟨f, hf⟩ : ∃ f, (fitL 0 xs).2 = f := ⟨_, rfl⟩
 have HFf := hid hf
 rw [hf]
 clear hf
 by_cases hf0 : ¬ f = 0
 · have hfb : (f != 0) = true := by simpa using hf0
   clear hf0
   go_wp2_with fail
   go_ret
   exact ⟨rfl, B3⟩
 have hf1 := Decidable.not_not.1 hf0
 have hfb : (f != 0) = false := by rw [hf1]; rfl
 have H0 : Hid ((fitL 0 xs).2 = 0) := hid (HFf.out.trans hf1)
 clear hf0 hf1 HFf
 rw [show Six.iOut xs = idx xs from if_pos H0.out] at rI
 have HRI := hid rI
 have HIl := hid rI.1
 clear rI
 by_cases h40 : n4 = 0
 · have h0b : ((n4 : Int) == 0) = true := by rw [h40]; rfl
   clear h40 HRI
   go_wp2_with fail
   go_ret
   exact ⟨rfl, B3⟩
 have h0b : ((n4 : Int) == 0) = false := by simpa using h40
 have HNm : Hid (namesM xs ≠ []) := hid fun q => by
   have h1 := HIl.out
   rw [Six.idx_length, q] at h1
   exact h40 h1.symm
 have hn4 : n4 ≤ 1000 := by rw [← HIl.out]; exact aL3.few.idx_len
 have Hl := hid aL3.rd.1
 have hn1 : 0 < n := by
   rcases Nat.eq_zero_or_pos n with q | q
   · have h1 := Hl.out
     rw [q] at h1
     exact absurd (by rw [List.length_eq_zero_iff.1 h1]; rfl) HNm.out
   · exact q
 have HW := hid (Arw.rwrite_any false none 0 0 [] 0 w.heap.size A n c xs w3 (Rd.nil _ _ _) (by omega) (by omega) aL3.rd aL3.hK aL3.few.ok hn20)
 clear h40
 go_wp2_with fail
 refine HW.out.mono ?_
 rintro e w4 ⟨v4, A6, n6, c6, rfl, ho4, _, hb4⟩
 have ew : Arw.wout false [] xs = arch false [] xs := if_pos H0.out
 rw [ew] at ho4
 obtain ⟨A7, c7, rfl, r7, hc7, hm7⟩ := ho4.reads
 have hn7 : (arch false [] xs).length ≤ 50000 := Arw.arch_len ((Arw.fitL_zero 0 _).1 H0.out) aL3.few.n aL3.few.ok aL3.few.len (by simp)
 have B4 := B3.trans (hb4.mono B3.size)
 have aL4 := aL3.on hb4
 have HI4 := hid (HRI.out.below hb4)
 have k34 := hb4.size
 have HBr := hid (opn_bare aL4.few H0.out HNm.out)
 have Hn7 := hid hn7
 have R7 := hid r7
 clear HW ho4 ew hb4 B3 aL3 HRI hn7 r7
 generalize arch false [] xs = La at *
 generalize hlna : La.length = na at *
 obtain ⟨fz, hfz⟩ : ∃ fz, (fitL 0 xs).2 = fz := ⟨_, rfl⟩
 rw [hfz]
 clear hlna hfz
 go_wp2_with fail
 refine (HP.out.open_ A7 na c7 La w4 (Hg.out.on B4) R7.out hc7 hm7 (by have := Hn7.out; omega)).mono ?_
 rintro e w5 hO
 obtain ⟨V2, rfl, _, _, _, _, hb5⟩ := hO.at HBr.out
 obtain ⟨q1, q2, q3, _, q5, q6, q7, _⟩ := V2
 simp only [Vw.val]
 have hbA := (Below.refl w5.heap.size w5).alloc (Nat.le_refl _) (.cells #[.slice q1 q2 q3, .slice q5 q6 q7] 27)
 have hb46 := hb5.trans (hbA.mono hb5.size)
 clear hO hbA hb5 R7 HBr Hn7
 go_upto_region 8 with fail
 generalize w5.alloc (.cells #[.slice q1 q2 q3, .slice q5 q6 q7] 27) = w6 at *
 have B6 := B4.trans (hb46.mono B4.size)
 have aL6 := aL4.on hb46
 have HI6 := hid (HI4.out.below (hb46.mono k34))
 have k46 := hb46.size
 generalize w5.heap.size = g5 at *
 clear hb46 B4 aL4 HI4
 have hne : ¬ (n : Int) = 0 := by omega
 have g1 : IntKind.i64.wrap (a : Int) = (a : Int) := by rw [IntKind.wrap_i64]; omega
 have hlt : a % n < n := Nat.mod_lt _ hn1
 have g2 : (a : Int).tmod (n : Int) = ((a % n : Nat) : Int) := rfl
 have g3 : IntKind.i64.wrap ((a % n : Nat) : Int) = ((a % n : Nat) : Int) := by rw [IntKind.wrap_i64]; omega
 generalize a % n = k at *
 have hki : (k : Int) < (n : Int) := by omega
 have hkl : k < xs.length := by rw [Hl.out]; exact hlt
 obtain ⟨b, o, rfl, hbK, hcell, hrd⟩ := rdm_cell aL6.rd hkl
 have hx1 := (aL6.few.ok _ (List.getElem_mem hkl)).len
 obtain ⟨hx3, hx4⟩ := aL6.cap _ (List.getElem_mem hkl)
 have HD := hid (rdefs_any w.heap.size xs[k].ptr xs[k].len xs[k].cap xs[k].data w6 hrd aL6.hK hx3 (by omega))
 obtain ⟨xd, hxd⟩ : ∃ xd, xs[k].data = xd := ⟨_, rfl⟩
 rw [hxd] at HD
 have HXd := hid hxd
 clear hrd hx1 hx3 hx4 hxd
 generalize xs[k].ptr = xp at *
 generalize xs[k].len = xn at *
 generalize xs[k].cap = xc at *
 go_wp2_with fail
 refine HD.out.mono ?_
 rintro e w7 hP
 obtain ⟨A8, n8, c8, rfl, hn8, _, _, _, _, hb7⟩ := hP.reads
 have Hn8 := hid hn8
 have B7 := B6.trans (hb7.mono B6.size)
 have aL7 := aL6.on hb7
 have HI7 := hid (HI6.out.below (hb7.mono (by omega)))
 have k67 := hb7.size
 clear hP hb7 B6 aL6 HI6 HD hcell hn8 g1 g2 g3
 by_cases h80 : n8 = 0
 · have h8b : ((n8 : Int) == 0) = true := by rw [h80]; rfl
   clear h80
   go_wp2_with fail
   go_ret
   exact ⟨rfl, B7⟩
 have h8b : ((n8 : Int) == 0) = false := by simpa using h80
 have HDne : Hid (defs xs[k].data ≠ []) := hid fun q => by
   have h1 := Hn8.out
   rw [← HXd.out, q] at h1
   exact h80 h1
 clear h80 HXd
 go_wp2_with fail
 refine (Amp.rencA_any w3.heap.size A4 n4 c4 (idx xs) w7 HI7.out (by omega) hn4 (fun e he => by have := Few.idx_name he; omega)).mono ?_
 rintro e w8 hEn
 obtain ⟨A9, n9, c9, rfl, hn9, _, r9, _, _, hb8⟩ := hEn.ok aL7.few.fit
 have hn9b : n9 ≤ 5004 := by rw [hn9, Six.idx_size]; exact aL7.few.names
 have B8 := B7.trans (hb8.mono B7.size)
 have aL8 := aL7.on hb8
 clear hEn hb8 B7 aL7 HI7 hn9 HIl
 go_wp2_with fail
 refine (rcopyS_any w.heap.size (some ⟨b, o, none⟩) n c xs w8 aL8.rd aL8.hK aL8.few.ok hn20).mono ?_
 rintro e w9 ⟨Aa, m, ca, ys, rfl, hO, hD, hS, hcore, hb9⟩
 have B9 := B8.trans (hb9.mono B8.size)
 have r9' := r9.below hb9
 have k89 := hb9.size
 have k08 := B8.size
 have hyl : ys.length = n := by rw [Arw.core_len hcore]; exact Hl.out
 obtain rfl : m = n := by
   have h1 := hO.1
   rw [Arp.mcells_length] at h1
   omega
 have hky : k < ys.length := by omega
 have HFy := hid (aL8.few.core hcore)
 have hsz : ∀ y ∈ ys, y.len ≤ 140737488355328 := fun y hy => by have := (HFy.out.ok y hy).len; omega
 have hRV := Arw.rdM_own hO hD hsz
 have HOy := hid hO
 have HDy := hid hD
 have HSy := hid hS
 have HCo := hid hcore
 have Hsz := hid hsz
 obtain ⟨b2, o2, rfl, hb2K, hc2, _⟩ := rdm_cell hRV hky
 have hdk := hD _ (List.getElem_mem hky)
 have hdl : ys[k].data.length = ys[k].len := HFy.out.len _ (List.getElem_mem hky)
 have HRn := hid fun b' o' s' (e' : ys[k].ptr = some ⟨b', o', s'⟩) => rows_ne (by decide) hO hdk b2 o2 none b' o' s' rfl e'
 have HDk : Hid (defs ys[k].data ≠ []) := hid (by
   have h1 : core ys[k] = core xs[k] := by
     have h2 : (ys.map core)[k]? = (xs.map core)[k]? := by rw [hcore]
     rw [List.getElem?_map, List.getElem?_map, List.getElem?_eq_getElem hky, List.getElem?_eq_getElem hkl] at h2
     simpa using h2
   have h3 : ys[k].data = xs[k].data := (congrArg Mem.data h1 : (core ys[k]).data = (core xs[k]).data)
   rw [h3]
   exact HDne.out)
 have hyn : ys[k].len ≤ 1000 := (HFy.out.ok _ (List.getElem_mem hky)).len
 obtain ⟨yp, hyp⟩ : ∃ yp, ys[k].ptr = yp := ⟨_, rfl⟩
 obtain ⟨yn, hyn'⟩ : ∃ yn, ys[k].len = yn := ⟨_, rfl⟩
 obtain ⟨yc, hyc⟩ : ∃ yc, ys[k].cap = yc := ⟨_, rfl⟩
 obtain ⟨yd, hyd⟩ : ∃ yd, ys[k].data = yd := ⟨_, rfl⟩
 have HYp := hid hyp
 have HYn := hid hyn'
 have HYc := hid hyc
 rw [hyp, hyn', hyc, hyd] at hdk
 rw [hyp, hyn', hyc] at hc2
 rw [hyd, hyn'] at hdl
 rw [hyn'] at hyn
 have Hdl := hid hdl
 rw [hyp] at HRn
 obtain ⟨K, hK⟩ : ∃ K, w8.heap.size = K := ⟨_, rfl⟩
 rw [hK] at hdk r9'
 have HK := hid hK
 clear hb9 B8 aL8 r9 hRV hO hD hS hcore hsz hyp hyn' hyc hyd hdl hK
 go_wp2_with fail
 go_loopw [19] (fun iv W => ∃ i : Nat, iv = .int .i64 (i : Int) ∧ i ≤ yn ∧ Byt.Own W K (.slice yp yn yc) yn (zeros i ++ yd.drop i) ∧ Hid (∀ g, (∀ o s, yp ≠ some ⟨g, o, s⟩) → W.heap[g]? = w9.heap[g]?) ∧ Below K w9 W) (fun iv _ => yn - (intOf iv).toNat)
 case atStart => exact ⟨0, rfl, by omega, by simpa [zeros] using hdk, hid (fun _ _ => rfl), Below.refl _ _⟩
 case round =>
   obtain ⟨i, rfl, hi, hO, hN, hb⟩ := hrel
   have hbn : wr.heap[b2]? = w9.heap[b2]? := hN.out b2 fun o' s' e' => HRn.out b2 o' s' e' rfl
   have hcw : wr.cell? ⟨b2, o2 + k * 6 + 5, none⟩ = some (.slice yp yn yc) := by
     rw [← hc2]
     unfold World.cell?
     rw [hbn]
   clear hbn
   by_cases hlt2 : i < yn
   · have hii : (i : Int) < (yn : Int) := by omega
     have hid' : i < yd.length := by have := Hdl.out; omega
     obtain ⟨g, cap, e, hg, hc, hfz, hset⟩ := hO.at_ (i := i) (by rw [hO.1]; exact hlt2)
     injection e with e1 _ e3
     subst e1 e3
     have hO2 := hset 0
     rw [show ((0 : UInt8).toNat : Int) = 0 from rfl, zero_step hid'] at hO2
     have hb3 := hb.setCell (p := ⟨g, i, none⟩) hg (.int .u8 0)
     have hN2 : Hid (∀ g', (∀ o s, (some ⟨g, 0, none⟩ : Option Addr) ≠ some ⟨g', o, s⟩) → (wr.setCell ⟨g, i, none⟩ (.int .u8 0)).heap[g']? = w9.heap[g']?) := hid fun g' hq =>
       (Below.heap_setCell wr ⟨g, i, none⟩ _ g' (fun q => hq 0 none (by rw [q]))).trans (hN.out g' hq)
     obtain ⟨z0, hz0⟩ : ∃ z0, wr.cell? ⟨g, i, none⟩ = some z0 := ⟨_, hc⟩
     clear hc
     clear hset hO hb hN
     go_wp2_with fail
     go_roundw
     · exact ⟨i + 1, by go_num, by omega, hO2, hN2, hb3⟩
     · simp [intOf]; omega
   · obtain rfl : i = yn := by omega
     have hii : ¬ (i : Int) < (i : Int) := by omega
     have e0 : zeros i ++ yd.drop i = zeros i := by rw [List.drop_eq_nil_of_le (by have := Hdl.out; omega), List.append_nil]
     rw [e0] at hO
     have hRW := rd_zap (W := wr) HOy.out HDy.out HSy.out hky (by rw [HYp.out, HYn.out, HYc.out, HK.out]; exact hO) (fun g hq => hN.out g (by rw [← HYp.out]; exact hq)) Hsz.out
     obtain ⟨hFz, hFz0⟩ := few_zap HFy.out (by rw [(Six.same_out HCo.out).2.2.2]; exact H0.out) hky
     have HOz := hid (opn_zap (xs := xs) (ys := ys) (by have h1 := HFy.out; exact h1.core HCo.out.symm) HCo.out H0.out hky HDk.out)
     have r9w := r9'.below hb
     have Bw := B9.trans (hb.mono (by have := HK.out; omega))
     have hkw := hb.size
     have hFl : (arch true (encA (idx xs)) (ys.set k (Mem.zap ys[k] (zeros ys[k].len)))).length ≤ 50000 := Arw.arch_len ((Arw.fitL_zero 0 _).1 hFz0) hFz.n hFz.ok hFz.len (by rw [← r9w.1] at hn9b; omega)
     have HFl := hid hFl
     have HWr := hid (Arw.rwrite_any true A9 n9 c9 (encA (idx xs)) K wr.heap.size (some ⟨b2, o2, none⟩) m ca _ wr r9w (by have := HK.out; omega) (by omega) hRW (Nat.le_refl _) hFz.ok hn20)
     have HF0 := hid hFz0
     clear e0 hO hN hb hRW hFz hFz0 r9w hFl B9 r9' hc2 hdk
     generalize ys.set k (Mem.zap ys[k] (zeros ys[k].len)) = zs at *
     go_wp2_with fail
     refine HWr.out.mono ?_
     rintro e wa ⟨va, Ab, nb, cb, rfl, hoa, _, hba⟩
     have ew : Arw.wout true (encA (idx xs)) zs = arch true (encA (idx xs)) zs := if_pos HF0.out
     rw [ew] at hoa
     obtain ⟨Ac, cc, rfl, rc, hcc, hmc⟩ := hoa.reads
     have Ba := Bw.trans (hba.mono Bw.size)
     have RC := hid rc
     clear hoa ew hba Bw rc HWr
     generalize arch true (encA (idx xs)) zs = Lb at *
     generalize hlnb : Lb.length = nc' at *
     generalize (fitL 0 zs).2 = fz2 at *
     clear hlnb
     go_wp2_with fail
     refine (HP.out.open_ Ac nc' cc Lb wa (Hg.out.on Ba) RC.out hcc hmc (by have := HFl.out; omega)).mono ?_
     rintro e wb hOp
     obtain ⟨V3, rfl, _, _, _, _, hbb⟩ := hOp.at HOz.out
     obtain ⟨s1, s2, s3, _, s5, s6, s7, _⟩ := V3
     simp only [Vw.val]
     have hbA := (Below.refl wb.heap.size wb).alloc (Nat.le_refl _) (.cells #[.slice s1 s2 s3, .slice s5 s6 s7] 27)
     have Bc := Ba.trans ((hbb.trans (hbA.mono hbb.size)).mono Ba.size)
     clear hOp hbA hbb Ba RC HOz HFl
     go_wp2_with fail
     go_ret
     exact ⟨rfl, Bc⟩
end Go.Proofs.YtjobmkodgodloaaGreatDoor.Con
