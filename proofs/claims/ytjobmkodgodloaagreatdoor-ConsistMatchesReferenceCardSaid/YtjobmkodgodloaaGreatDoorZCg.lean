/-
  The laws of consist: view, awake.
-/
import Derived.Test.YtjobmkodgodloaaGreatDoorZCe
import Derived.Test.YtjobmkodgodloaaGreatDoorZAf
namespace Go.Proofs.YtjobmkodgodloaaGreatDoor.Con
open Go.RowKit Go.Proofs Go.Proofs.YtjobmkodgodloaaGreatDoor.Byt
open Go.Proofs.YtjobmkodgodloaaGreatDoor.Lnm (Gnd)
open Go.Proofs.YtjobmkodgodloaaGreatDoor.Arp (Mem St Pm ar Arc RdM OwnM mcells)
open Go.Proofs.YtjobmkodgodloaaGreatDoor.Arw (fitL offL base arch fitsM MOk core)
open Go.Proofs.YtjobmkodgodloaaGreatDoor.Six (defs Few namesM cOut RdL RComp)

set_option maxRecDepth 100000 in
theorem view_any (v : Vw) (w : World) : Calls Tryz.prog 12 #[v.val] w fun e w' => e = .returned v.val ∧ Below w.heap.size w w' := by
 obtain ⟨x1, x2, x3, x4, x5, x6, x7, x8⟩ := v
 have hb := ((Below.refl w.heap.size w).alloc (Nat.le_refl _) (.cells #[.slice x1 x2 x3, .slice x5 x6 x7] 27)).alloc (by simp) (.cells #[.slice x1 x2 x3, .slice x5 x6 x7] 31)
 have hrow := heap_alloc_new (w.alloc (.cells #[.slice x1 x2 x3, .slice x5 x6 x7] 27)) (.cells #[.slice x1 x2 x3, .slice x5 x6 x7] 31)
 rw [World.size_alloc] at hrow
 have hl := load_view _ _ _ hrow rfl
 clear hrow
 simp only [Vw.val]
 go_enter Tryz.func12, Tryz.ntmps12
 go_wp2_with fail
 exact bodyPost_ret (v := .agg #[.slice x1 x2 x3, .slice x5 x6 x7]) (by simp [results, Tryz.results12, asAddr, hl]) rfl ⟨rfl, hb⟩

def oF : Obj.Sy := ⟨⟨#[102]⟩, 1, 0, 0⟩
def awO : List UInt8 := Obj.encO [oF] []
theorem aw_valid : Obj.validO [oF] = true := by decide +kernel
theorem aw_olen : awO.length = 19 := by decide +kernel
theorem aw_odefs : defs awO = [⟨#[102]⟩] := by
 unfold defs awO
 rw [Obj.decO_enc _ _ aw_valid]
 rfl
def mO (p : Option Addr) (c : Nat) : Mem := ⟨⟨#[97, 46, 111]⟩, 0, 0, 0, 0, p, 19, c, awO⟩
def awL (p : Option Addr) (c : Nat) : List Mem := [mO p c]
theorem aw_names (p : Option Addr) (c : Nat) : namesM (awL p c) = [⟨#[102]⟩] := by
 show defs awO ++ [] = _
 rw [aw_odefs]
 rfl
theorem aw_fit (p : Option Addr) (c : Nat) : (fitL 0 (awL p c)).2 = 0 := by
 have h : (fitL 0 (awL none 0)).2 = 0 := by decide +kernel
 have e : (awL p c).map core = (awL none 0).map core := rfl
 rw [← Arw.fitL_core 0, e, Arw.fitL_core, h]
theorem aw_few (p : Option Addr) (c : Nat) : Few (awL p c) := by
 refine ⟨by show (1 : Nat) ≤ 20; decide, fun x hx => ?_, fun x hx => ?_, by show (19 : Nat) ≤ 5000; decide⟩
 · rw [List.mem_singleton.1 hx]
   exact ⟨by show (3 : Nat) ≤ 300; decide, by show (19 : Nat) ≤ 1000; decide, by show (0 : Int) < _; decide, by show (0 : Int) < _; decide, by show (0 : Int) < _; decide, by show (0 : Int) < _; decide⟩
 · rw [List.mem_singleton.1 hx]
   exact aw_olen
theorem aw_magic : opn Arp.magic = (St.zero, 0, 0) := by
 have h : ar Arp.magic = (St.zero, 0, 0) := by
   have hi : Arp.isAr Arp.magic = true := by decide +kernel
   rw [Arp.ar_go hi]
   exact Arp.go_nil _ _
 exact opn_ok h rfl
theorem aw_x : opn [120] = (St.zero, 0, 2) := opn_bad (Arp.ar_2 (by decide)) (by decide)
theorem aw_bare (p : Option Addr) (c : Nat) : opn (arch false [] (awL p c)) = (St.zero, 8, 16) := opn_bare (aw_few p c) (aw_fit p c) (by rw [aw_names]; simp)
theorem aw_full (p : Option Addr) (c : Nat) : ∃ s, opn (cOut (awL p c)) = (s, 0, 0) ∧ s.mems = (awL p c).map Mem.pure := by
 obtain ⟨mp, t, h⟩ := opn_complete (aw_few p c) (aw_fit p c)
 exact ⟨_, h, rfl⟩
theorem aw_defs (p : Option Addr) (c : Nat) : defsP ((awL p c).map Mem.pure) = [[⟨#[102]⟩]] := by
 show [defs awO] = _
 rw [aw_odefs]
theorem OpnP.at {l : List UInt8} {w w' : World} {e : Ending} (h : OpnP l w e w') {s : St} {k : Nat} {z : Int} (ho : opn l = (s, k, z)) :
   ∃ v : Vw, e = .returned (.tuple #[v.val, .int .i64 (k : Int), .int .i64 z]) ∧ v.is s ∧ RdV w' w'.heap.size v ∧ Cel.Own 64 6 w' w.heap.size (.slice v.mp v.mn v.mc) v.mn (mcells v.mems) ∧ OwnM w' w.heap.size v.mems ∧ Below w.heap.size w w' := by
 obtain ⟨v, h1, h2, h3, h4, h5, h6⟩ := h
 rw [ho] at h1 h2
 exact ⟨v, h1, h2, h5, h3, h4, h6⟩

set_option linter.unusedSimpArgs false in
set_option maxRecDepth 100000 in
set_option maxHeartbeats 16000000 in
theorem awake9_any (P : PC9) (w : World) (hg : Gnd w) : Calls Tryz.prog 8 #[] w fun e w' => e = .returned (.bool true) ∧ Below w.heap.size w w' := by
 have HP := hid P
 have Hg := hid hg
 have hrow0 := heap_alloc_new w (.cells #[.string ⟨#[102]⟩, .int .i64 1, .int .i64 0, .int .i64 0] 69)
 have hba := (Below.refl w.heap.size w).alloc (Nat.le_refl _) (.cells #[.string ⟨#[102]⟩, .int .i64 1, .int .i64 0, .int .i64 0] 69)
 have hsz0 := World.size_alloc w (.cells #[.string ⟨#[102]⟩, .int .i64 1, .int .i64 0, .int .i64 0] 69)
 have hrs : Obj.RdS _ (w.heap.size + 1) (some ⟨w.heap.size, 0, none⟩) 1 [oF] := Obj.rds_of (Obj.rd_row (cs := Obj.scells [oF]) hrow0 (by omega) rfl) (by intro x hx; simp at hx; subst hx; decide)
 have H1 := hid (Obj.rencode_any (w.heap.size + 1) _ none 1 1 0 0 [oF] [] _ hrs (Rd.nil _ _ _) (by omega) (by omega) (by omega) (by omega))
 clear hg hrow0 hrs
 go_enter Tryz.func8, Tryz.ntmps8
 go_wp2_with fail
 refine H1.out.mono ?_
 rintro e w1 hE
 obtain ⟨A1, n1, c1, rfl, hn1, ho1, r1, hc1, hm1, hb1⟩ := hE.ok aw_valid
 obtain rfl : n1 = 19 := hn1.trans aw_olen
 have B1 := hba.trans (hb1.mono (by omega))
 have hc1' : 19 ≤ c1 := hc1
 clear H1 hE hn1 hb1 hba hsz0 ho1 hc1
 have hrM := heap_alloc_new w1 (.cells #[.string ⟨#[97, 46, 111]⟩, .int .i64 0, .int .i64 0, .int .i64 0, .int .i64 0, .slice A1 19 c1] 64)
 have hbM := (Below.refl w1.heap.size w1).alloc (Nat.le_refl _) (.cells #[.string ⟨#[97, 46, 111]⟩, .int .i64 0, .int .i64 0, .int .i64 0, .int .i64 0, .slice A1 19 c1] 64)
 have hsM := World.size_alloc w1 (.cells #[.string ⟨#[97, 46, 111]⟩, .int .i64 0, .int .i64 0, .int .i64 0, .int .i64 0, .slice A1 19 c1] 64)
 go_upto_region 3 with fail
 generalize w1.alloc (.cells #[.string ⟨#[97, 46, 111]⟩, .int .i64 0, .int .i64 0, .int .i64 0, .int .i64 0, .slice A1 19 c1] 64) = w2 at *
 have rO2 := r1.below hbM
 have B2 := B1.trans (hbM.mono B1.size)
 obtain ⟨G, hG⟩ : ∃ G, w1.heap.size = G := ⟨_, rfl⟩
 have hL : RdM w2 (G + 1) (some ⟨G, 0, none⟩) 1 (awL A1 c1) := Arw.rdM_row (by rw [hG] at hrM; exact hrM) rfl (by omega) (fun x hx => by
   rw [List.mem_singleton.1 hx]
   exact ⟨rO2.more (by omega), by show (19 : Nat) ≤ _; omega⟩)
 rw [hG] at hsM rO2 ⊢
 have hF := aw_few A1 c1
 have HF := hid hF
 clear r1 hrM hbM B1 hG hF
 have HW := hid (Arw.rwrite_any false none 0 0 [] 0 (G + 1) (some ⟨G, 0, none⟩) 1 1 (awL A1 c1) w2 (Rd.nil _ _ _) (by omega) (by omega) hL (by omega) HF.out.ok (by omega))
 go_wp2_with fail
 refine HW.out.mono ?_
 rintro e w3 ⟨v3, A3, n3, c3, rfl, ho3, _, hb3⟩
 have ew : Arw.wout false [] (awL A1 c1) = arch false [] (awL A1 c1) := if_pos (aw_fit A1 c1)
 rw [ew] at ho3
 obtain ⟨A4, c4, rfl, r4, hc4, hm4⟩ := ho3.reads
 have hn4 : (arch false [] (awL A1 c1)).length ≤ 50000 := Arw.arch_len ((Arw.fitL_zero 0 _).1 (aw_fit A1 c1)) HF.out.n HF.out.ok HF.out.len (by simp)
 have B3 := B2.trans (hb3.mono B2.size)
 have hL3 := hL.below (hb3.mono (by omega))
 have Hn4 := hid hn4
 have HB := hid (aw_bare A1 c1)
 generalize arch false [] (awL A1 c1) = La at *
 have k3 := hb3.size
 clear HW ho3 ew hb3 B2 hL rO2 hn4
 go_wp2_with fail
 refine (Six.rcomplete_any (G + 1) (some ⟨G, 0, none⟩) 1 1 (awL A1 c1) w3 hL3 (by omega) HF.out (fun x hx => by rw [List.mem_singleton.1 hx]; exact hc1')).mono ?_
 rintro e w4 hR
 obtain ⟨A5, n5, c5, A6, n6, c6, A7, n7, c7, rfl, hn5, r5', hc5, hm5, _, hb4⟩ := rcomp_owns hR
 have B4 := B3.trans (hb4.mono B3.size)
 have hL4 := hL3.below (hb4.mono (by omega))
 have r44 := r4.below hb4
 have k4 := hb4.size
 have hn5b : n5 ≤ 50000 := by rw [hn5]; exact HF.out.clen
 have HC := hid (aw_full A1 c1)
 have Hn5 := hid hn5
 generalize cOut (awL A1 c1) = Lc at *
 clear hR hb4 B3 hL3 r4 hn5
 go_wp2_with fail
 refine (Arp.rmagic_own w4).mono ?_
 rintro e w5 ⟨A8, c8, rfl, o8, r8, hc8, hb5⟩
 obtain ⟨_, _, e8, _, _, hm8⟩ := o8.reads
 injection e8 with e81 _ e83
 subst e81 e83
 have B5 := B4.trans (hb5.mono B4.size)
 have hL5 := hL4.below (hb5.mono (by omega))
 have r45 := r44.below (hb5.mono (by omega))
 have r55 := r5'.below hb5
 have k5 := hb5.size
 clear hb5 B4 hL4 r44 r5' o8
 go_wp2_with fail
 refine (HP.out.open_ A8 8 c8 Arp.magic w5 (Hg.out.on B5) r8 hc8 hm8 (by omega)).mono ?_
 rintro e w6 hO
 obtain ⟨V1, rfl, _, _, _, _, hb6⟩ := hO.at aw_magic
 obtain ⟨V11, V12, V13, _, V15, V16, V17, _⟩ := V1
 simp only [Vw.val]
 have hbA := (Below.refl w6.heap.size w6).alloc (Nat.le_refl _) (.cells #[.slice V11 V12 V13, .slice V15 V16 V17] 27)
 have hb56 := hb6.trans (hbA.mono hb6.size)
 have hsA := World.size_alloc w6 (.cells #[.slice V11 V12 V13, .slice V15 V16 V17] 27)
 clear hO hb6 r8 hbA
 go_upto_region 6 with fail
 generalize w6.alloc (.cells #[.slice V11 V12 V13, .slice V15 V16 V17] 27) = w7 at *
 have B7 := B5.trans (hb56.mono B5.size)
 have hL7 := hL5.below (hb56.mono (by omega))
 have r47 := (r45.below (hb56.mono (by omega))).more (K' := w7.heap.size) (by have := hb56.size; omega)
 have r57 := r55.below (hb56.mono (by omega))
 have k7 := hb56.size
 generalize w6.heap.size = g6 at *
 clear hb56 B5 hL5 r45 r55 hsA
 have HO7 := hid (HP.out.open_ A4 _ c4 La w7 (Hg.out.on B7) r47 hc4 hm4 (by have := Hn4.out; omega))
 generalize La.length = na at *
 go_wp2_with fail
 refine HO7.out.mono ?_
 rintro e w8 hO
 obtain ⟨V2, rfl, _, _, _, _, hb8⟩ := hO.at HB.out
 obtain ⟨V21, V22, V23, _, V25, V26, V27, _⟩ := V2
 simp only [Vw.val]
 have hbA := (Below.refl w8.heap.size w8).alloc (Nat.le_refl _) (.cells #[.slice V21 V22 V23, .slice V25 V26 V27] 27)
 have hb79 := hb8.trans (hbA.mono hb8.size)
 clear hO hb8 hbA r47
 go_upto_region 7 with fail
 generalize w8.alloc (.cells #[.slice V21 V22 V23, .slice V25 V26 V27] 27) = w9 at *
 have B9 := B7.trans (hb79.mono B7.size)
 have hL9 := hL7.below (hb79.mono (by omega))
 have r59 := (r57.below (hb79.mono (by omega))).more (K' := w9.heap.size) (by have := hb79.size; omega)
 have k9 := hb79.size
 generalize w8.heap.size = g8 at *
 clear hb79 B7 hL7 r57 HO7 HB
 obtain ⟨sC, hsC, hmC⟩ := HC.out
 have HO9 := hid (HP.out.open_ A5 n5 c5 Lc w9 (Hg.out.on B9) r59 hc5 hm5 (by omega))
 go_wp2_with fail
 refine HO9.out.mono ?_
 rintro e wa hO
 obtain ⟨V3, rfl, hi3, rV3, _, _, hba⟩ := hO.at hsC
 have HV3 := hid rV3
 have HI3 := hid hi3
 obtain ⟨V31, V32, V33, V34, V35, V36, V37, V38⟩ := V3
 simp only [Vw.val]
 have hbA := (Below.refl wa.heap.size wa).alloc (Nat.le_refl _) (.cells #[.slice V31 V32 V33, .slice V35 V36 V37] 27)
 have hrV := heap_alloc_new wa (.cells #[.slice V31 V32 V33, .slice V35 V36 V37] 27)
 have hsA := World.size_alloc wa (.cells #[.slice V31 V32 V33, .slice V35 V36 V37] 27)
 have hb9b := hba.trans (hbA.mono hba.size)
 clear hO r59 HO9 rV3 hi3 hba
 go_upto_region 8 with fail
 generalize wa.alloc (.cells #[.slice V31 V32 V33, .slice V35 V36 V37] 27) = wb at *
 have Bb := B9.trans (hb9b.mono B9.size)
 have hLb := hL9.below (hb9b.mono (by omega))
 have HVb := hid ((HV3.out.below hbA).more hbA.size)
 have kb := hb9b.size
 generalize wa.heap.size = ga at *
 have HRV := hid hrV
 have hgab : ga < wb.heap.size := by omega
 clear hbA hb9b B9 hL9 HV3 hrV hsA
 have kc := Lib.run_convert_bytes_const (P := Tryz.prog) wb 22 5 #[.int .u8 120] 1 1 Tryz.underlying22 Tryz.underlying5
 have rT := Rd.lit wb [120] #[.int .u8 120] rfl 1 rfl (1, 2)
 have hbT := (Below.refl wb.heap.size wb).alloc (Nat.le_refl _) (.cells #[.int .u8 120] 5 (1, 2))
 have hsT := World.size_alloc wb (.cells #[.int .u8 120] 5 (1, 2))
 have hkbT := hbT.size
 have HX := hid (HP.out.open_ _ 1 1 [120] _ (Hg.out.on (Bb.trans (hbT.mono Bb.size))) (rT.more (Nat.le_of_eq hsT.symm)) (Nat.le_refl _) (by unfold maxLen; omega) (by omega))
 clear rT hsT
 go_wp2_with fail
 refine HX.out.mono ?_
 rintro e wc hO
 obtain ⟨V4, rfl, _, _, _, _, hbc⟩ := hO.at aw_x
 obtain ⟨V41, V42, V43, _, V45, V46, V47, _⟩ := V4
 simp only [Vw.val]
 have hbA := (Below.refl wc.heap.size wc).alloc (Nat.le_refl _) (.cells #[.slice V41 V42 V43, .slice V45 V46 V47] 27)
 have hbbd := (hbT.trans (hbc.mono (by omega))).trans (hbA.mono (by have := hbc.size; omega))
 clear hO kc hbT hbc hbA HX
 go_upto_region 9 with fail
 generalize wc.alloc (.cells #[.slice V41 V42 V43, .slice V45 V46 V47] 27) = wd at *
 have Bd := Bb.trans (hbbd.mono Bb.size)
 have hLd := hLb.below (hbbd.mono (by omega))
 have HVd := hid (HVb.out.below hbbd)
 have hrVd := (hbbd.block ga (by omega)).trans HRV.out
 have d0 := cell_of_row _ ga 0 _ _ _ hrVd
 have d1 := cell_of_row _ ga 1 _ _ _ hrVd
 have kd := hbbd.size
 generalize wc.heap.size = gc at *
 have HLd := hid hLd
 clear hbbd Bb hLb HRV hrVd HVb hLd
 have HVw := hid (view_any ⟨V31, V32, V33, V34, V35, V36, V37, V38⟩ wd)
 simp only [Vw.val] at HVw
 go_wp2_with fail
 refine HVw.out.mono ?_
 rintro e we ⟨rfl, hbe⟩
 have Be := Bd.trans (hbe.mono Bd.size)
 have hLe := HLd.out.below (hbe.mono (by omega))
 have HVe := hid (HVd.out.below (hbe.mono kd))
 have ke := hbe.size
 clear hbe Bd HVd HVw d0 d1 HLd
 have sL := Sls.Rd.lit we [⟨#[102]⟩] #[.string ⟨#[102]⟩] rfl 1 rfl
 have hbS := (Below.refl we.heap.size we).alloc (Nat.le_refl _) (.cells #[.string ⟨#[102]⟩] 9)
 have hsS := World.size_alloc we (.cells #[.string ⟨#[102]⟩] 9)
 have hrL := heap_alloc_new (we.alloc (.cells #[.string ⟨#[102]⟩] 9)) (.cells #[.slice (some ⟨we.heap.size, 0, none⟩) 1 1] 61)
 have hbL := (Below.refl (we.alloc (.cells #[.string ⟨#[102]⟩] 9)).heap.size (we.alloc (.cells #[.string ⟨#[102]⟩] 9))).alloc (Nat.le_refl _) (.cells #[.slice (some ⟨we.heap.size, 0, none⟩) 1 1] 61)
 have hsL := World.size_alloc (we.alloc (.cells #[.string ⟨#[102]⟩] 9)) (.cells #[.slice (some ⟨we.heap.size, 0, none⟩) 1 1] 61)
 rw [hsS] at hrL hsL
 have hbSL := hbS.trans (hbL.mono hbS.size)
 have sL2 := sL.below (hbL.mono (by omega))
 have rL : RdL _ (we.heap.size + 2) (some ⟨we.heap.size + 1, 0, none⟩) 1 [[⟨#[102]⟩]] := ⟨rfl, fun k hk => by
   obtain rfl : k = 0 := by simp at hk; exact hk
   exact ⟨_, _, _, _, rfl, by omega, cell_of_row _ _ 0 _ _ _ hrL, sL2.more (by omega), Nat.le_refl _, by show (1 : Nat) ≤ maxLen; unfold maxLen; omega⟩⟩
 have HW2 : Hid (∀ x : Vw, x = ⟨some ⟨G, 0, none⟩, 1, 1, awL A1 c1, some ⟨we.heap.size + 1, 0, none⟩, 1, 1, [[⟨#[102]⟩]]⟩ → RdV ((we.alloc (.cells #[.string ⟨#[102]⟩] 9)).alloc (.cells #[.slice (some ⟨we.heap.size, 0, none⟩) 1 1] 61)) (we.heap.size + 2) x) := hid fun x hx => by
   subst hx
   exact ⟨(hLe.below (hbSL.mono (by omega))).more (by omega), rL, by show (1 : Nat) ≤ _; omega, by show (1 : Nat) ≤ _; omega, fun d hd => by rw [List.mem_singleton.1 hd]; show (1 : Nat) ≤ _; omega⟩
 have hVx := (HVe.out.below (hbSL.mono (by omega))).more (K' := we.heap.size + 2) (by omega)
 have HS := hid (rsameV_any _ _ (we.heap.size + 2) _ hVx (HW2.out _ rfl) (by rw [hsL]; omega) (by
     refine Arp.sameMs_pure ?_
     rw [show ({ mp := V31, mn := V32, mc := V33, mems := V34, dp := V35, dn := V36, dc := V37, dfs := V38 } : Vw).mems.map Mem.pure = sC.mems from HI3.out.1, hmC])
   (by rw [show ({ mp := V31, mn := V32, mc := V33, mems := V34, dp := V35, dn := V36, dc := V37, dfs := V38 } : Vw).dfs = defsP sC.mems from HI3.out.2, hmC, aw_defs]))
 simp only [Vw.val] at HS
 clear sL hbS hsS hrL hbL sL2 rL HW2 hVx HVe hLe
 go_wp2_with fail
 refine HS.out.mono ?_
 rintro e wf ⟨rfl, hbf⟩
 have Bf := Be.trans ((hbSL.trans (hbf.mono (by omega))).mono Be.size)
 clear HS hbf hbSL hsL Be
 go_wp2_with fail
 go_ret
 exact ⟨rfl, Bf⟩
end Go.Proofs.YtjobmkodgodloaaGreatDoor.Con
