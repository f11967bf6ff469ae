/-
  arwrite's reference: Write.
  arwrite: the laws' awake.
-/
import Derived.Test.YtjobmkodgodloaaGreatDoorYWk
namespace Go.Proofs.YtjobmkodgodloaaGreatDoor.Arw
open Go.RowKit Go.Proofs Go.Proofs.YtjobmkodgodloaaGreatDoor.Byt Go.Proofs.YtjobmkodgodloaaGreatDoor.Dec Go.Proofs.YtjobmkodgodloaaGreatDoor.Lnm Go.Proofs.YtjobmkodgodloaaGreatDoor.Hdr Go.Proofs.YtjobmkodgodloaaGreatDoor.Arp
open Go.Proofs.YtjobmkodgodloaaGreatDoor.Sls (Fr blk Oth)

theorem flat_offAt {xs : List Mem} (hfit : ∀ x ∈ xs, fitsM x = 0) (hn : xs.length ≤ 20) (hl : ∀ x ∈ xs, x.data.length = x.len) (o : Nat) : ∀ k, k ≤ xs.length → o + (flat ((bodyP xs).take k)).length = offAt o xs k
 | 0, _ => by simp [flat, offAt]
 | k + 1, h => by
   have hk : k < xs.length := by omega
   have hkb : k < (bodyP xs).length := by rw [bodyP_length hfit]; exact hk
   have ih := flat_offAt hfit hn hl o k (by omega)
   rw [flat_succ hkb, List.length_append, ← Nat.add_assoc, ih, offAt_succ hk, bodyP_at hfit hk, (ptl_len (herr_body hfit (by omega) hk) (by exact hl xs[k] (List.getElem_mem hk))).2]
   rfl
theorem fo_get {xs : List Mem} {w : World} {K n c : Nat} {A : Option Addr} (ho : Sls.Own w K (.slice A n c) n (fo (nms xs))) {k : Nat} (hk : k < n) {fk : ByteArray} (h : (fo (nms xs))[k]? = some fk) : ∃ b o, A = some ⟨b, o, none⟩ ∧ b < w.heap.size ∧ w.cell? ⟨b, o + k, none⟩ = some (.string fk) ∧ n ≤ c := by
 obtain ⟨A', c', ef, hrd, hc, _⟩ := ho.reads
 injection ef with ef1 _ ef3
 subst ef1 ef3
 obtain ⟨b, o, e, hb, hfc⟩ := hrd.2 k (by rw [hrd.1]; exact hk)
 have hfe : (fo (nms xs))[k]'(by rw [hrd.1]; exact hk) = fk := by
   rw [List.getElem?_eq_getElem (by rw [hrd.1]; exact hk)] at h
   injection h
 rw [hfe] at hfc
 exact ⟨b, o, e, hb, hfc, hc⟩

def RWrites (hm : Bool) (md : List UInt8) (xs : List Mem) (w : World) (e : Ending) (w' : World) : Prop :=
 ∃ v A n c, e = .returned (.tuple #[v, .slice A n c, .int .i64 (fitL 0 xs).2]) ∧ Byt.Own w' w.heap.size v (wout hm md xs).length (wout hm md xs) ∧
   Cel.Own 3 1 w' w.heap.size (.slice A n c) n (ints (if (fitL 0 xs).2 = 0 then offL (base hm md.length xs) xs else [])) ∧ Below w.heap.size w w'
theorem RWrites.fin {hm : Bool} {md : List UInt8} {xs : List Mem} {w W : World} (hz : (fitL 0 xs).2 = 0) {pre : List UInt8} (hpre : Arp.magic ++ (flat (mapP hm none md.length 0 md) ++ flat (tabP none (bo (nms xs)).length 0 (bo (nms xs)))) = pre) (hln : pre.length = base hm md.length xs)
   {A : Option Addr} {n c : Nat} {Ab : Option Addr} {lb cb : Nat} (hn : xs.length = n) (ho : pre.length + (flat (bodyP xs)).length = lb)
   (h1 : Cel.Own 3 1 W w.heap.size (.slice A n c) n (ints ((List.range n).map (offAt pre.length xs)))) (h2 : Byt.Own W w.heap.size (.slice Ab lb cb) lb (pre ++ flat (bodyP xs))) (h3 : Below w.heap.size w W) :
   RWrites hm md xs w (.returned (.tuple #[.slice Ab lb cb, .slice A n c, .int .i64 0])) W := by
 have e1 : wout hm md xs = pre ++ flat (bodyP xs) := by
   unfold wout arch
   rw [if_pos hz, ← hpre, List.append_assoc, List.append_assoc]
 refine ⟨.slice Ab lb cb, A, n, c, by rw [hz], ?_, ?_, h3⟩
 · rw [e1, List.length_append, ho]; exact h2
 · rw [if_pos hz, ← hln]; unfold offL; rw [hn]; exact h1

theorem pre_len (hm : Bool) (md T : List UInt8) (hmd : md.length ≤ 20000) (hT : T.length ≤ 6000) : (Arp.magic ++ (flat (mapP hm none md.length 0 md) ++ flat (tabP none T.length 0 T))).length = 8 + (if hm = true then pz md.length else 0) + (if T.length = 0 then 0 else pz T.length) := by
 have h8 : Arp.magic.length = 8 := rfl
 have h1 : (flat (mapP hm none md.length 0 md)).length = if hm = true then pz md.length else 0 := by
   cases hm
   · rfl
   · show (flat [_]).length = pz md.length
     rw [flat_one, (ptl_len (x := mpt none md.length 0 md) (herr_map (by omega)) rfl).2]
     rfl
 have h2 : (flat (tabP none T.length 0 T)).length = if T.length = 0 then 0 else pz T.length := by
   unfold tabP
   split
   · rfl
   · rw [flat_one, (ptl_len (x := tpt none T.length 0 T) (herr_tab (by omega)) rfl).2]
     rfl
 rw [List.length_append, List.length_append, h8, h1, h2]
 omega

set_option maxRecDepth 100000 in
theorem rmagic_own (w : World) :
   Calls Tryz.prog 29 #[] w fun e w' => ∃ A c, e = .returned (.slice A 8 c) ∧ Byt.Own w' w.heap.size (.slice A 8 c) 8 Arp.magic ∧ Below w.heap.size w w' := by
 go_enter Tryz.func29, Tryz.ntmps29
 have kc := Lib.run_convert_bytes_const (P := Tryz.prog) w 22 5 #[.int .u8 33, .int .u8 60, .int .u8 97, .int .u8 114, .int .u8 99, .int .u8 104, .int .u8 62, .int .u8 10] 8 8 Tryz.underlying22 Tryz.underlying5
 go_wp2_with fail
 go_ret
 exact ⟨_, _, rfl, ⟨rfl, .inr ⟨w.heap.size, 8, _, (8, 9), rfl, Nat.le_refl _, heap_alloc_new w _, Nat.le_refl _, by unfold maxLen; omega, rfl, rfl, fun j hj => by simp only; omega⟩⟩, (Below.refl _ w).alloc (Nat.le_refl _) _⟩

set_option linter.unusedSimpArgs false in
set_option maxRecDepth 100000 in
set_option maxHeartbeats 16000000 in
theorem rwrite_any (hm : Bool) (mA : Option Addr) (mn mc : Nat) (md : List UInt8) (Km K : Nat) (A : Option Addr) (n c : Nat) (xs : List Mem) (w : World) (hmd : Byt.Rd w Km mA mn md) (hKm : Km ≤ w.heap.size) (hmn : mn ≤ 20000) (h : RdM w K A n xs) (hK : K ≤ w.heap.size) (hok : ∀ x ∈ xs, MOk x) (hn : n ≤ 20) :
   Calls Tryz.prog 22 #[.bool hm, .slice mA mn mc, .slice A n c] w (RWrites hm md xs w) := by
 have Hl := hid h.1
 have Hmd := hid hmd
 have Hxl : Hid (∀ x ∈ xs, x.data.length = x.len) := hid fun x hx => by
   obtain ⟨k, hk, rfl⟩ := List.mem_iff_getElem.1 hx
   exact (h.2 k hk).2.1.1
 have hlen := hid (bo_len (nms xs))
 have hnl : Hid ((nms xs).length = n) := hid (by simp [nms, Hl.out])
 clear hmd
 go_enter Tryz.func22, Tryz.ntmps22
 go_wp2_with fail
 refine (rfits5_any K A n c xs w h hK hok (by omega)).mono ?_
 rintro e w1 ⟨rfl, hb1⟩
 obtain ⟨f1, f2, hf⟩ : ∃ f1 f2, fitL 0 xs = (f1, f2) := ⟨_, _, rfl⟩
 rw [hf]
 by_cases hz : f2 = 0
 · subst hz
   have HF0 : Hid ((fitL 0 xs).2 = 0) := hid (by rw [hf])
   have Hfit := hid ((fitL_zero 0 xs).1 HF0.out)
   have hfl : Hid ((fo (nms xs)).length = n) := hid (by rw [show fo (nms xs) = flds [] (nms xs) from if_pos (nms_allV Hfit.out), flds_length, hnl.out])
   clear hf
   go_wp2_with fail
   go_loopw [12, 11] (fun i v W => ∃ (k : Nat) (A1 : Option Addr) (c1 : Nat), i = .int .i64 (k : Int) ∧ v = .slice A1 k c1 ∧ k ≤ n ∧ Sls.Own W w.heap.size (.slice A1 k c1) k ((nms xs).take k) ∧ Below w.heap.size w W) (fun i _ _ => n - (intOf i).toNat)
   case atStart => exact ⟨0, none, 0, rfl, rfl, by omega, by simpa using Sls.Own.nil _ _, hb1⟩
   case round =>
     obtain ⟨k, A1, c1, rfl, rfl, hk, hO, hb⟩ := hrel
     by_cases hlt : k < n
     · have hkl : k < xs.length := by have := Hl.out; omega
       have hki : (k : Int) < (n : Int) := by omega
       obtain ⟨⟨b, o, rfl, hbK, hcell⟩, _, _⟩ := (h.below (hb.mono hK)).2 k hkl
       have HT : Hid ((nms xs).take (k + 1) = (nms xs).take k ++ [xs[k].name]) := hid (by rw [List.take_add_one, show (nms xs)[k]? = some xs[k].name by simp [nms, hkl]]; rfl)
       generalize xs[k] = x at *
       obtain ⟨x0, x1, x2, x3, x4, x5, x6, x7, x8⟩ := x
       obtain ⟨p0, p1, p2, p3, p4, p5⟩ := hcell
       simp only at *
       go_wp2_with (at_builtin; go_must (refine Sls.wpList_push wr w.heap.size _ k _ x0 hO hb.size (by omega) rfl (.tmp 33) (.tmp 39) rfl rfl rfl ?_); intro v2 w2 ho2 hb2 _ _; obtain ⟨A2, c2, rfl, _⟩ := ho2.reads)
       rw [← HT.out] at ho2
       have hb02 := hb.trans hb2
       clear hO hb hb2 p0 p1 p2 p3 p4 p5
       go_roundw
       all_goals first
         | exact ⟨k + 1, A2, c2, by go_num, by go_num, by omega, ho2, hb02⟩
         | (simp [intOf]; omega)
     · obtain rfl : k = n := by omega
       have hT : (nms xs).take k = nms xs := List.take_of_length_le (by simp [nms, Hl.out])
       rw [hT] at hO
       obtain ⟨_, _, e1, hr1, _⟩ := hO.reads
       injection e1 with e11 _ e13
       subst e11 e13
       have HB := hid (rbuild_any wr.heap.size A1 k c1 (nms xs) wr hr1 (Nat.le_refl _) (by omega) (nms_size hok))
       clear hT hO hr1
       go_wp2_with fail
       refine HB.out.mono ?_
       rintro e w3 ⟨vT, vF, rfl, oT, oF, hb3⟩
       obtain ⟨At, ct, rfl, _⟩ := oT.reads
       obtain ⟨Af, cf, rfl, _⟩ := oF.reads
       have hb03 := hb.trans (hb3.mono hb.size)
       replace oT := oT.more hb.size
       replace oF := oF.more hb.size
       rw [hfl.out] at oF
       obtain ⟨tn, htn⟩ : ∃ tn, (bo (nms xs)).length = tn := ⟨_, rfl⟩
       have HTn := hid htn
       rw [htn, hfl.out]
       rw [htn] at oT
       have htb : tn ≤ 6000 := by have := hlen.out; rw [htn] at this; have := hnl.out; omega
       have hs3 := hb03.size
       clear hb hb3 htn HB
       go_wp2_with fail
       refine (rmagic_own w3).mono ?_
       rintro e w4 ⟨AM, cM, rfl, oM, hb4⟩
       have hb04 := hb03.trans (hb4.mono hs3)
       have oT4 := oT.below hb4
       have oF4 := oF.below hb4
       replace oM := oM.more hs3
       clear hb4 hb03 hs3 oT oF
       obtain ⟨n, hn0⟩ : ∃ n, n = k := ⟨_, rfl⟩
       subst hn0
       cases hm
       · obtain ⟨bs, hbs0⟩ : ∃ bs, Arp.magic = bs := ⟨_, rfl⟩
         have hbl8 : 8 = bs.length := by rw [← hbs0]; rfl
         have HBs : Hid (bs = Arp.magic ++ flat (mapP false none md.length 0 md)) := hid (by rw [← hbs0]; rfl)
         have oB := oM
         rw [hbs0, hbl8] at oB
         rw [hbl8]
         have oT := oT4
         have oF := oF4
         have hbq := hb04
         have hbsb : bs.length ≤ 23000 := by omega
         clear oM oT4 oF4 hb04 hbs0 hbl8
         by_cases ht0 : tn = 0
         · have hti : ¬ (0 : Int) < (tn : Int) := by omega
           obtain ⟨pre, hpre⟩ : ∃ pre, Arp.magic ++ (flat (mapP false none md.length 0 md) ++ flat (tabP none (bo (nms xs)).length 0 (bo (nms xs)))) = pre := ⟨_, rfl⟩
           have HPre := hid hpre
           have hplen := pre_len false md (bo (nms xs)) (by have := Hmd.out.1; omega) (by have := hlen.out; have := hnl.out; omega)
           rw [hpre] at hplen
           have HBase : Hid (pre.length = base false md.length xs) := hid hplen
           have hpb : pre.length ≤ 29000 := by
             have h1 := hlen.out
             have h2 := hnl.out
             have h3 := Hmd.out.1
             rw [hplen]
             unfold pz
             split <;> split <;> omega
           clear hplen
           have hbs : pre = bs := by rw [HBs.out, ← hpre, HTn.out, ht0]; simp [tabP, flat]
           subst hbs
           clear hpre
           go_wp2_with fail
           have hKo : pre.length ≤ 29000 := hpb
           have HOf := hid (fun k (hk : k ≤ n) => offAt_le (o := pre.length) hok k (by have := Hl.out; omega))
           have HFl := hid (flat_offAt Hfit.out (by have := Hl.out; omega) Hxl.out pre.length)
           have hst : Byt.Own w4 w.heap.size (.slice AM (offAt pre.length xs 0) cM) (offAt pre.length xs 0) (pre ++ flat ((bodyP xs).take 0)) := by
             rw [show offAt pre.length xs 0 = pre.length by simp [offAt], List.take_zero, flat_nil, List.append_nil]
             exact oB
           have hlb : Hid (pre.length = offAt pre.length xs 0) := hid (by simp [offAt])
           clear oB hpb
           go_loopw [18, 17, 16] (fun i f v W => ∃ (k : Nat) (A1 : Option Addr) (c1 : Nat) (A2 : Option Addr) (c2 : Nat), i = .int .i64 (k : Int) ∧ f = .slice A1 k c1 ∧ v = .slice A2 (offAt pre.length xs k) c2 ∧ k ≤ n ∧ Cel.Own 3 1 W w.heap.size (.slice A1 k c1) k (ints ((List.range k).map (offAt pre.length xs))) ∧ Byt.Own W w.heap.size (.slice A2 (offAt pre.length xs k) c2) (offAt pre.length xs k) (pre ++ flat ((bodyP xs).take k)) ∧ Sls.Own W w.heap.size (.slice Af n cf) n (fo (nms xs)) ∧ Below w.heap.size w W) (fun i _ _ _ => n - (intOf i).toNat)
           case atStart => exact ⟨0, none, 0, AM, cM, rfl, rfl, by rw [← hlb.out], by omega, Cel.Own.nil _ _ _ _, hst, oF, hbq⟩
           case round =>
             obtain ⟨k, A1, c1, A2, c2, rfl, rfl, rfl, hk, hO, hB, hF, hb⟩ := hrel
             by_cases hlt : k < n
             · have hkl : k < xs.length := by have := Hl.out; omega
               have hki : (k : Int) < (n : Int) := by omega
               obtain ⟨⟨b, o, rfl, hbK, hcell⟩, hxd, _⟩ := (h.below (hb.mono hK)).2 k hkl
               have HBa := hid (bodyP_at Hfit.out hkl)
               have HBl := hid (bodyP_length Hfit.out)
               obtain ⟨fk, hfk⟩ : ∃ fk, fld ((nms xs).take k) xs[k].name = fk := ⟨_, rfl⟩
               have HFk : Hid ((fo (nms xs))[k]? = some fk) := hid (by rw [← hfk]; exact fo_at Hfit.out hkl)
               have hxk := hok xs[k] (List.getElem_mem hkl)
               have hnf : fk.size ≤ 16 := by
                 obtain ⟨k', hk', e, _, hs⟩ := body_mem Hfit.out (by have := Hl.out; omega) (List.getElem_mem (h := show k < (bodyP xs).length by rw [HBl.out]; exact hkl))
                 rw [HBa.out, hfk] at hs
                 exact hs
               have HT : Hid (ints ((List.range (k + 1)).map (offAt pre.length xs)) = ints ((List.range k).map (offAt pre.length xs)) ++ [.int .i64 (offAt pre.length xs k : Int)]) := hid (by rw [List.range_succ]; simp [ints])
               have HS : Hid (pre ++ flat ((bodyP xs).take (k + 1)) = (pre ++ flat ((bodyP xs).take k)) ++ mkp fk (num xs[k].time xs[k].uid xs[k].gid xs[k].mode (xs[k].len : Int)) xs[k].data) := hid (by
                 rw [flat_succ (by rw [HBl.out]; exact hkl), HBa.out, hfk, ← List.append_assoc]
                 rfl)
               have HN : Hid (offAt pre.length xs (k + 1) = offAt pre.length xs k + (mkp fk (num xs[k].time xs[k].uid xs[k].gid xs[k].mode (xs[k].len : Int)) xs[k].data).length) := hid (by
                 have q := (ptl_len (herr_body Hfit.out (by have := Hl.out; omega) hkl) (by exact Hxl.out xs[k] (List.getElem_mem hkl))).2
                 rw [hfk] at q
                 rw [offAt_succ hkl]
                 exact congrArg _ q.symm)
               have hof := HOf.out k hk
               have hml := hid (HOf.out (k + 1) (by omega))
               clear hfk HBa HBl
               generalize xs[k] = x at *
               obtain ⟨x0, x1, x2, x3, x4, x5, x6, x7, x8⟩ := x
               obtain ⟨p0, p1, p2, p3, p4, p5⟩ := hcell
               obtain ⟨_, q2, q3, q4, q5, q6⟩ := hxk
               simp only at *
               generalize hL : mkp fk (num x1 x2 x3 x4 (x6 : Int)) x8 = L at *
               have HL := hid hL
               rw [HN.out] at hml
               clear hL
               obtain ⟨ok, hok2⟩ : ∃ ok, offAt pre.length xs k = ok := ⟨_, rfl⟩
               obtain ⟨on, hon⟩ : ∃ on, offAt pre.length xs (k + 1) = on := ⟨_, rfl⟩
               have HON := hid hon
               rw [hok2] at hB hof hml HN HT ⊢
               rw [hon] at HN
               clear hok2 hon
               go_upto_region 20 with (at_builtin; go_must (refine Cel.wpList_push kI wr w.heap.size (.slice A1 k c1) k _ hO hb.size 1 1 #[.int .i64 (ok : Int)] (0, 0) rfl (by simp [Value.oneCell']) (by omega) (by omega) rfl (.tmp 68) (.tmp 71) rfl rfl rfl ?_); intro v3 w3' hO3 hb3 hot3 _; obtain ⟨A3, c3, rfl, _⟩ := hO3.reads)
               rw [show ints ((List.range k).map (offAt pre.length xs)) ++ #[Value.int .i64 (ok : Int)].toList = ints ((List.range (k + 1)).map (offAt pre.length xs)) by rw [HT.out]] at hO3
               have hF3 := sown_oth hF hot3 (by decide)
               have hB3 := bown_oth hB hot3 (by decide)
               have hb03 := hb.trans hb3
               have hbK3 : b < w.heap.size := by omega
               have r0 := (cell_eq (o := o + k * 6) (hb3.block b hbK3)).trans p0
               have r1 := (cell_eq (o := o + k * 6 + 1) (hb3.block b hbK3)).trans p1
               have r2 := (cell_eq (o := o + k * 6 + 2) (hb3.block b hbK3)).trans p2
               have r3 := (cell_eq (o := o + k * 6 + 3) (hb3.block b hbK3)).trans p3
               have r4 := (cell_eq (o := o + k * 6 + 4) (hb3.block b hbK3)).trans p4
               have r5 := (cell_eq (o := o + k * 6 + 5) (hb3.block b hbK3)).trans p5
               have hxd3 := hxd.below (hb3.mono hK)
               obtain ⟨b', o', ef, hb', hfc, hcf⟩ := fo_get hF3 hlt HFk.out
               subst ef
               have hs3 := hb03.size
               clear hO hB hF hot3 hb3 p0 p1 p2 p3 p4 p5 hb hxd
               refine Ord.Till.begin (fun W' => W'.cell? ⟨b, o + k * 6, none⟩ = some (.string x0) ∧ W'.cell? ⟨b, o + k * 6 + 1, none⟩ = some (.int .i64 x1) ∧ W'.cell? ⟨b, o + k * 6 + 2, none⟩ = some (.int .i64 x2) ∧ W'.cell? ⟨b, o + k * 6 + 3, none⟩ = some (.int .i64 x3) ∧ W'.cell? ⟨b, o + k * 6 + 4, none⟩ = some (.int .i64 x4) ∧ W'.cell? ⟨b, o + k * 6 + 5, none⟩ = some (.slice x5 x6 x7) ∧ W'.cell? ⟨b', o' + k, none⟩ = some (.string fk)) 60 (by kernel_rfl) ?_
               have hS0 : (fun W' => W'.cell? ⟨b, o + k * 6, none⟩ = some (.string x0) ∧ W'.cell? ⟨b, o + k * 6 + 1, none⟩ = some (.int .i64 x1) ∧ W'.cell? ⟨b, o + k * 6 + 2, none⟩ = some (.int .i64 x2) ∧ W'.cell? ⟨b, o + k * 6 + 3, none⟩ = some (.int .i64 x3) ∧ W'.cell? ⟨b, o + k * 6 + 4, none⟩ = some (.int .i64 x4) ∧ W'.cell? ⟨b, o + k * 6 + 5, none⟩ = some (.slice x5 x6 x7) ∧ W'.cell? ⟨b', o' + k, none⟩ = some (.string fk)) w3'.drew := ⟨r0, r1, r2, r3, r4, r5, hfc⟩
               refine Ord.Till.take' 0 (some 73) (oi := _) (x := ?_) rfl rfl (by kernel_rfl) (by kernel_rfl) (by kernel_rfl) (by kernel_rfl) (fun _ _ _ h => h) (by kernel_rfl) ?_ hS0 ?_
               rotate_left 1
               · intro v hv; obtain ⟨z0, z1, z2, z3, z4, z5, z6⟩ := hv; go_simp; first | done | with_reducible rfl
               try simp only [Act.put, List.setIfInBounds_toArray, List.set_cons_zero, List.set_cons_succ]
               refine Ord.Till.take' 1 (some 74) (oi := _) (x := ?_) rfl rfl (by kernel_rfl) (by kernel_rfl) (by kernel_rfl) (by kernel_rfl) (fun _ _ _ h => h) (by kernel_rfl) ?_ hS0 ?_
               rotate_left 1
               · intro v hv; obtain ⟨z0, z1, z2, z3, z4, z5, z6⟩ := hv; go_simp; first | done | with_reducible rfl
               try simp only [Act.put, List.setIfInBounds_toArray, List.set_cons_zero, List.set_cons_succ]
               refine Ord.Till.take' 2 (some 75) (oi := _) (x := ?_) rfl rfl (by kernel_rfl) (by kernel_rfl) (by kernel_rfl) (by kernel_rfl) (fun _ _ _ h => h) (by kernel_rfl) ?_ hS0 ?_
               rotate_left 1
               · intro v hv; obtain ⟨z0, z1, z2, z3, z4, z5, z6⟩ := hv; go_simp; first | done | with_reducible rfl
               try simp only [Act.put, List.setIfInBounds_toArray, List.set_cons_zero, List.set_cons_succ]
               refine Ord.Till.take' 3 (some 76) (oi := _) (x := ?_) rfl rfl (by kernel_rfl) (by kernel_rfl) (by kernel_rfl) (by kernel_rfl) (fun _ _ _ h => h) (by kernel_rfl) ?_ hS0 ?_
               rotate_left 1
               · intro v hv; obtain ⟨z0, z1, z2, z3, z4, z5, z6⟩ := hv; go_simp; first | done | with_reducible rfl
               try simp only [Act.put, List.setIfInBounds_toArray, List.set_cons_zero, List.set_cons_succ]
               refine Ord.Till.take' 4 (some 77) (oi := _) (x := ?_) rfl rfl (by kernel_rfl) (by kernel_rfl) (by kernel_rfl) (by kernel_rfl) (fun _ _ _ h => h) (by kernel_rfl) ?_ hS0 ?_
               rotate_left 1
               · intro v hv; obtain ⟨z0, z1, z2, z3, z4, z5, z6⟩ := hv; go_simp; first | done | with_reducible rfl
               try simp only [Act.put, List.setIfInBounds_toArray, List.set_cons_zero, List.set_cons_succ]
               refine Ord.Till.take' 5 (some 78) (oi := _) (x := ?_) rfl rfl (by kernel_rfl) (by kernel_rfl) (by kernel_rfl) (by kernel_rfl) (fun _ _ _ h => h) (by kernel_rfl) ?_ hS0 ?_
               rotate_left 1
               · intro v hv; obtain ⟨z0, z1, z2, z3, z4, z5, z6⟩ := hv; go_simp; first | done | with_reducible rfl
               try simp only [Act.put, List.setIfInBounds_toArray, List.set_cons_zero, List.set_cons_succ]
               refine Ord.Till.take' 6 (some 79) (oi := _) (x := ?_) rfl rfl (by kernel_rfl) (by kernel_rfl) (by kernel_rfl) (by kernel_rfl) (fun _ _ _ h => h) (by kernel_rfl) ?_ hS0 ?_
               rotate_left 1
               · intro v hv; obtain ⟨z0, z1, z2, z3, z4, z5, z6⟩ := hv; go_simp; first | done | with_reducible rfl
               try simp only [Act.put, List.setIfInBounds_toArray, List.set_cons_zero, List.set_cons_succ]
               refine Ord.Till.take' 7 (some 80) (oi := _) (x := ?_) rfl rfl (by kernel_rfl) (by kernel_rfl) (by kernel_rfl) (by kernel_rfl) (fun _ _ _ h => h) (by kernel_rfl) ?_ hS0 ?_
               rotate_left 1
               · intro v hv; obtain ⟨z0, z1, z2, z3, z4, z5, z6⟩ := hv; go_simp; first | done | with_reducible rfl
               try simp only [Act.put, List.setIfInBounds_toArray, List.set_cons_zero, List.set_cons_succ]
               refine Ord.Till.take' 8 (some 81) (oi := _) (x := ?_) rfl rfl (by kernel_rfl) (by kernel_rfl) (by kernel_rfl) (by kernel_rfl) (fun _ _ _ h => h) (by kernel_rfl) ?_ hS0 ?_
               rotate_left 1
               · intro v hv; obtain ⟨z0, z1, z2, z3, z4, z5, z6⟩ := hv; go_simp; first | done | with_reducible rfl
               try simp only [Act.put, List.setIfInBounds_toArray, List.set_cons_zero, List.set_cons_succ]
               refine Ord.Till.take' 9 (some 82) (oi := _) (x := ?_) rfl rfl (by kernel_rfl) (by kernel_rfl) (by kernel_rfl) (by kernel_rfl) (fun _ _ _ h => h) (by kernel_rfl) ?_ hS0 ?_
               rotate_left 1
               · intro v hv; obtain ⟨z0, z1, z2, z3, z4, z5, z6⟩ := hv; go_simp; first | done | with_reducible rfl
               try simp only [Act.put, List.setIfInBounds_toArray, List.set_cons_zero, List.set_cons_succ]
               refine Ord.Till.take' 10 (some 83) (oi := _) (x := ?_) rfl rfl (by kernel_rfl) (by kernel_rfl) (by kernel_rfl) (by kernel_rfl) (fun _ _ _ h => h) (by kernel_rfl) ?_ hS0 ?_
               rotate_left 1
               · intro v hv; obtain ⟨z0, z1, z2, z3, z4, z5, z6⟩ := hv; go_simp; first | done | with_reducible rfl
               try simp only [Act.put, List.setIfInBounds_toArray, List.set_cons_zero, List.set_cons_succ]
               refine Ord.Till.take' 11 (some 84) (oi := _) (x := ?_) rfl rfl (by kernel_rfl) (by kernel_rfl) (by kernel_rfl) (by kernel_rfl) (fun _ _ _ h => h) (by kernel_rfl) ?_ hS0 ?_
               rotate_left 1
               · intro v hv; obtain ⟨z0, z1, z2, z3, z4, z5, z6⟩ := hv; go_simp; first | done | with_reducible rfl
               try simp only [Act.put, List.setIfInBounds_toArray, List.set_cons_zero, List.set_cons_succ]
               refine Ord.Till.take' 12 (some 85) (oi := _) (x := ?_) rfl rfl (by kernel_rfl) (by kernel_rfl) (by kernel_rfl) (by kernel_rfl) (fun _ _ _ h => h) (by kernel_rfl) ?_ hS0 ?_
               rotate_left 1
               · intro v hv; obtain ⟨z0, z1, z2, z3, z4, z5, z6⟩ := hv; go_simp; first | done | with_reducible rfl
               try simp only [Act.put, List.setIfInBounds_toArray, List.set_cons_zero, List.set_cons_succ]
               refine Ord.Till.take' 13 (some 86) (oi := _) (x := ?_) rfl rfl (by kernel_rfl) (by kernel_rfl) (by kernel_rfl) (by kernel_rfl) (fun _ _ _ h => h) (by kernel_rfl) ?_ hS0 ?_
               rotate_left 1
               · intro v hv; obtain ⟨z0, z1, z2, z3, z4, z5, z6⟩ := hv; go_simp; first | done | with_reducible rfl
               try simp only [Act.put, List.setIfInBounds_toArray, List.set_cons_zero, List.set_cons_succ]
               refine Ord.Till.take' 14 (some 87) (oi := _) (x := ?_) rfl rfl (by kernel_rfl) (by kernel_rfl) (by kernel_rfl) (by kernel_rfl) (fun _ _ _ h => h) (by kernel_rfl) ?_ hS0 ?_
               rotate_left 1
               · intro v hv; obtain ⟨z0, z1, z2, z3, z4, z5, z6⟩ := hv; go_simp; first | done | with_reducible rfl
               try simp only [Act.put, List.setIfInBounds_toArray, List.set_cons_zero, List.set_cons_succ]
               refine Ord.Till.take' 15 (some 88) (oi := _) (x := ?_) rfl rfl (by kernel_rfl) (by kernel_rfl) (by kernel_rfl) (by kernel_rfl) (fun _ _ _ h => h) (by kernel_rfl) ?_ hS0 ?_
               rotate_left 1
               · intro v hv; obtain ⟨z0, z1, z2, z3, z4, z5, z6⟩ := hv; go_simp; first | done | with_reducible rfl
               try simp only [Act.put, List.setIfInBounds_toArray, List.set_cons_zero, List.set_cons_succ]
               refine Ord.Till.take' 16 (some 89) (oi := _) (x := ?_) rfl rfl (by kernel_rfl) (by kernel_rfl) (by kernel_rfl) (by kernel_rfl) (fun _ _ _ h => h) (by kernel_rfl) ?_ hS0 ?_
               rotate_left 1
               · intro v hv; obtain ⟨z0, z1, z2, z3, z4, z5, z6⟩ := hv; go_simp; first | done | with_reducible rfl
               try simp only [Act.put, List.setIfInBounds_toArray, List.set_cons_zero, List.set_cons_succ]
               refine Ord.Till.take' 17 (some 90) (oi := _) (x := ?_) rfl rfl (by kernel_rfl) (by kernel_rfl) (by kernel_rfl) (by kernel_rfl) (fun _ _ _ h => h) (by kernel_rfl) ?_ hS0 ?_
               rotate_left 1
               · intro v hv; obtain ⟨z0, z1, z2, z3, z4, z5, z6⟩ := hv; go_simp; first | done | with_reducible rfl
               try simp only [Act.put, List.setIfInBounds_toArray, List.set_cons_zero, List.set_cons_succ]
               refine Ord.Till.take' 18 (some 91) (oi := _) (x := ?_) rfl rfl (by kernel_rfl) (by kernel_rfl) (by kernel_rfl) (by kernel_rfl) (fun _ _ _ h => h) (by kernel_rfl) ?_ hS0 ?_
               rotate_left 1
               · intro v hv; obtain ⟨z0, z1, z2, z3, z4, z5, z6⟩ := hv; go_simp; first | done | with_reducible rfl
               try simp only [Act.put, List.setIfInBounds_toArray, List.set_cons_zero, List.set_cons_succ]
               refine Ord.Till.take' 19 (some 92) (oi := _) (x := ?_) rfl rfl (by kernel_rfl) (by kernel_rfl) (by kernel_rfl) (by kernel_rfl) (fun _ _ _ h => h) (by kernel_rfl) ?_ hS0 ?_
               rotate_left 1
               · intro v hv; obtain ⟨z0, z1, z2, z3, z4, z5, z6⟩ := hv; go_simp; first | done | with_reducible rfl
               try simp only [Act.put, List.setIfInBounds_toArray, List.set_cons_zero, List.set_cons_succ]
               refine Ord.Till.take' 20 (some 93) (oi := _) (x := ?_) rfl rfl (by kernel_rfl) (by kernel_rfl) (by kernel_rfl) (by kernel_rfl) (fun _ _ _ h => h) (by kernel_rfl) ?_ hS0 ?_
               rotate_left 1
               · intro v hv; obtain ⟨z0, z1, z2, z3, z4, z5, z6⟩ := hv; go_simp; first | done | with_reducible rfl
               try simp only [Act.put, List.setIfInBounds_toArray, List.set_cons_zero, List.set_cons_succ]
               refine Ord.Till.take' 21 (some 94) (oi := _) (x := ?_) rfl rfl (by kernel_rfl) (by kernel_rfl) (by kernel_rfl) (by kernel_rfl) (fun _ _ _ h => h) (by kernel_rfl) ?_ hS0 ?_
               rotate_left 1
               · intro v hv; obtain ⟨z0, z1, z2, z3, z4, z5, z6⟩ := hv; go_simp; first | done | with_reducible rfl
               try simp only [Act.put, List.setIfInBounds_toArray, List.set_cons_zero, List.set_cons_succ]
               refine Ord.Till.take' 22 (some 95) (oi := _) (x := ?_) rfl rfl (by kernel_rfl) (by kernel_rfl) (by kernel_rfl) (by kernel_rfl) (fun _ _ _ h => h) (by kernel_rfl) ?_ hS0 ?_
               rotate_left 1
               · intro v hv; obtain ⟨z0, z1, z2, z3, z4, z5, z6⟩ := hv; go_simp; first | done | with_reducible rfl
               try simp only [Act.put, List.setIfInBounds_toArray, List.set_cons_zero, List.set_cons_succ]
               refine Ord.Till.take' 23 (some 96) (oi := _) (x := ?_) rfl rfl (by kernel_rfl) (by kernel_rfl) (by kernel_rfl) (by kernel_rfl) (fun _ _ _ h => h) (by kernel_rfl) ?_ hS0 ?_
               rotate_left 1
               · intro v hv; obtain ⟨z0, z1, z2, z3, z4, z5, z6⟩ := hv; go_simp; first | done | with_reducible rfl
               try simp only [Act.put, List.setIfInBounds_toArray, List.set_cons_zero, List.set_cons_succ]
               refine Ord.Till.take' 24 (some 97) (oi := _) (x := ?_) rfl rfl (by kernel_rfl) (by kernel_rfl) (by kernel_rfl) (by kernel_rfl) (fun _ _ _ h => h) (by kernel_rfl) ?_ hS0 ?_
               rotate_left 1
               · intro v hv; obtain ⟨z0, z1, z2, z3, z4, z5, z6⟩ := hv; go_simp; first | done | with_reducible rfl
               try simp only [Act.put, List.setIfInBounds_toArray, List.set_cons_zero, List.set_cons_succ]
               refine Ord.Till.take' 25 (some 98) (oi := _) (x := ?_) rfl rfl (by kernel_rfl) (by kernel_rfl) (by kernel_rfl) (by kernel_rfl) (fun _ _ _ h => h) (by kernel_rfl) ?_ hS0 ?_
               rotate_left 1
               · intro v hv; obtain ⟨z0, z1, z2, z3, z4, z5, z6⟩ := hv; go_simp; first | done | with_reducible rfl
               try simp only [Act.put, List.setIfInBounds_toArray, List.set_cons_zero, List.set_cons_succ]
               refine Ord.Till.take' 26 (some 99) (oi := _) (x := ?_) rfl rfl (by kernel_rfl) (by kernel_rfl) (by kernel_rfl) (by kernel_rfl) (fun _ _ _ h => h) (by kernel_rfl) ?_ hS0 ?_
               rotate_left 1
               · intro v hv; obtain ⟨z0, z1, z2, z3, z4, z5, z6⟩ := hv; go_simp; first | done | with_reducible rfl
               try simp only [Act.put, List.setIfInBounds_toArray, List.set_cons_zero, List.set_cons_succ]
               refine Ord.Till.take' 27 (some 100) (oi := _) (x := ?_) rfl rfl (by kernel_rfl) (by kernel_rfl) (by kernel_rfl) (by kernel_rfl) (fun _ _ _ h => h) (by kernel_rfl) ?_ hS0 ?_
               rotate_left 1
               · intro v hv; obtain ⟨z0, z1, z2, z3, z4, z5, z6⟩ := hv; go_simp; first | done | with_reducible rfl
               try simp only [Act.put, List.setIfInBounds_toArray, List.set_cons_zero, List.set_cons_succ]
               refine Ord.Till.take' 28 (some 101) (oi := _) (x := ?_) rfl rfl (by kernel_rfl) (by kernel_rfl) (by kernel_rfl) (by kernel_rfl) (fun _ _ _ h => h) (by kernel_rfl) ?_ hS0 ?_
               rotate_left 1
               · intro v hv; obtain ⟨z0, z1, z2, z3, z4, z5, z6⟩ := hv; go_simp; first | done | with_reducible rfl
               try simp only [Act.put, List.setIfInBounds_toArray, List.set_cons_zero, List.set_cons_succ]
               refine Ord.Till.take' 29 (some 102) (oi := _) (x := ?_) rfl rfl (by kernel_rfl) (by kernel_rfl) (by kernel_rfl) (by kernel_rfl) (fun _ _ _ h => h) (by kernel_rfl) ?_ hS0 ?_
               rotate_left 1
               · intro v hv; obtain ⟨z0, z1, z2, z3, z4, z5, z6⟩ := hv; go_simp; first | done | with_reducible rfl
               try simp only [Act.put, List.setIfInBounds_toArray, List.set_cons_zero, List.set_cons_succ]
               refine Ord.Till.take' 30 (some 103) (oi := _) (x := ?_) rfl rfl (by kernel_rfl) (by kernel_rfl) (by kernel_rfl) (by kernel_rfl) (fun _ _ _ h => h) (by kernel_rfl) ?_ hS0 ?_
               rotate_left 1
               · intro v hv; obtain ⟨z0, z1, z2, z3, z4, z5, z6⟩ := hv; go_simp; first | done | with_reducible rfl
               try simp only [Act.put, List.setIfInBounds_toArray, List.set_cons_zero, List.set_cons_succ]
               refine Ord.Till.step 31 (by kernel_rfl) rfl (fun C hC => ?_)
               go_simp
               go_at_call 42
               refine (rpart_any fk x1 x2 x3 x4 0 K x5 x6 x7 x8 w3'.drew (hxd3.drewN 1) (show K ≤ w3'.heap.size by omega) (by omega) (by omega) q3 q4 q5 q6).mono ?_
               rw [HL.out]
               rintro e w4' ⟨v4, rfl, o4, hb4⟩
               have hb4' : Below w3'.heap.size w3' w4' := (Below.refl _ _).drew.trans hb4
               obtain ⟨A4, c4, rfl, r4', _⟩ := o4.reads
               have hO4 := hO3.below hb4'
               have hB4 := hB3.below hb4'
               have hF4 := hF3.below hb4'
               have hb04 := hb03.trans (hb4'.mono hs3)
               have hs4 := hb4'.size
               have hS4 : (fun W' => W'.cell? ⟨b, o + k * 6, none⟩ = some (.string x0) ∧ W'.cell? ⟨b, o + k * 6 + 1, none⟩ = some (.int .i64 x1) ∧ W'.cell? ⟨b, o + k * 6 + 2, none⟩ = some (.int .i64 x2) ∧ W'.cell? ⟨b, o + k * 6 + 3, none⟩ = some (.int .i64 x3) ∧ W'.cell? ⟨b, o + k * 6 + 4, none⟩ = some (.int .i64 x4) ∧ W'.cell? ⟨b, o + k * 6 + 5, none⟩ = some (.slice x5 x6 x7) ∧ W'.cell? ⟨b', o' + k, none⟩ = some (.string fk)) w4' := ⟨(cell_eq (hb4'.block b (by omega))).trans r0, (cell_eq (hb4'.block b (by omega))).trans r1, (cell_eq (hb4'.block b (by omega))).trans r2, (cell_eq (hb4'.block b (by omega))).trans r3, (cell_eq (hb4'.block b (by omega))).trans r4, (cell_eq (hb4'.block b (by omega))).trans r5, (cell_eq (hb4'.block b' hb')).trans hfc⟩
               go_wp2_with fail
               refine hC.out _ _ (fun _ => hS4) ?_
               clear hC C hS0 hO3 hB3 hF3 hb03 hb4 o4
               try simp only [List.getElem_toArray, List.getElem_cons_zero, List.getElem_cons_succ, Act.put, List.setIfInBounds_toArray, List.set_cons_zero, List.set_cons_succ]
               obtain ⟨_, _, eB, rB4, _⟩ := hB4.reads
               injection eB with eB1 _ eB3
               subst eB1 eB3
               refine Ord.Till.step 32 (by kernel_rfl) rfl (fun C hC => ?_)
               go_simp
               go_at_call 41
               refine (Byt.add_any w4'.heap.size w4'.heap.size A2 A4 ok c2 L.length c4 _ L w4' rB4 r4' (Nat.le_refl _) (Nat.le_refl _) (by omega) (by have := hml.out; omega)).mono ?_
               rintro e w5' ⟨v5, rfl, o5, hb5⟩
               obtain ⟨A5, c5, rfl, _⟩ := o5.reads
               replace o5 := o5.more hb04.size
               have hO5 := hO4.below hb5
               have hF5 := hF4.below hb5
               have hb05 := hb04.trans (hb5.mono hb04.size)
               have hS5 : (fun W' => W'.cell? ⟨b, o + k * 6, none⟩ = some (.string x0) ∧ W'.cell? ⟨b, o + k * 6 + 1, none⟩ = some (.int .i64 x1) ∧ W'.cell? ⟨b, o + k * 6 + 2, none⟩ = some (.int .i64 x2) ∧ W'.cell? ⟨b, o + k * 6 + 3, none⟩ = some (.int .i64 x3) ∧ W'.cell? ⟨b, o + k * 6 + 4, none⟩ = some (.int .i64 x4) ∧ W'.cell? ⟨b, o + k * 6 + 5, none⟩ = some (.slice x5 x6 x7) ∧ W'.cell? ⟨b', o' + k, none⟩ = some (.string fk)) w5' := by
                 obtain ⟨s0, s1, s2, s3, s4, s5, s6⟩ := hS4
                 exact ⟨(cell_eq (hb5.block b (by omega))).trans s0, (cell_eq (hb5.block b (by omega))).trans s1, (cell_eq (hb5.block b (by omega))).trans s2, (cell_eq (hb5.block b (by omega))).trans s3, (cell_eq (hb5.block b (by omega))).trans s4, (cell_eq (hb5.block b (by omega))).trans s5, (cell_eq (hb5.block b' (by omega))).trans s6⟩
               go_wp2_with fail
               refine hC.out _ _ (fun _ => hS5) ?_
               clear hC C hS4 hO4 hB4 hF4 hb04 hb5 rB4 r4'
               try simp only [List.getElem_toArray, List.getElem_cons_zero, List.getElem_cons_succ, Act.put, List.setIfInBounds_toArray, List.set_cons_zero, List.set_cons_succ]
               refine Ord.Till.step 33 (by kernel_rfl) rfl (fun C hC => ?_)
               go_simp
               refine hC.out _ _ (fun _ => hS5) ?_
               clear hC C
               try simp only [List.getElem_toArray, List.getElem_cons_zero, List.getElem_cons_succ, Act.put, List.setIfInBounds_toArray, List.set_cons_zero, List.set_cons_succ]
               refine Ord.Till.done (by kernel_rfl) ?_ _
               clear hS5 r0 r1 r2 r3 r4 r5 hfc hb'
               rw [← HN.out, ← HS.out] at o5
               rw [← HN.out]
               go_wp2_with fail
               go_roundw
               all_goals first
                 | exact ⟨k + 1, A3, c3, A5, c5, by go_num, rfl, by rw [HON.out], by omega, hO5, by rw [HON.out]; exact o5, hF5, hb05⟩
                 | (simp [intOf]; omega)
             · obtain rfl : k = n := by omega
               have hTk : (bodyP xs).take k = bodyP xs := List.take_of_length_le (by rw [bodyP_length Hfit.out]; have := Hl.out; omega)
               have hfo := HFl.out k (by have := Hl.out; omega)
               rw [hTk] at hB hfo
               have HR := hid (RWrites.fin (hm := false) HF0.out HPre.out HBase.out Hl.out hfo hO hB hb)
               clear hfo hO hB hb hTk
               generalize offAt pre.length xs k = ok at *
               go_wp2_with fail
               go_ret3
               exact HR.out
         · have hti : (0 : Int) < (tn : Int) := by omega
           obtain ⟨_, _, eT, rT, _⟩ := oT.reads
           injection eT with eT1 _ eT3
           subst eT1 eT3
           go_wp2_with fail
           refine (rpart_any ⟨#[47, 47]⟩ 0 0 0 0 0 w4.heap.size _ tn ct (bo (nms xs)) w4 rT (Nat.le_refl _) (by omega) (by show (2 : Nat) ≤ 1000; decide) (by decide) (by decide) (by decide) (by decide)).mono ?_
           rintro e w7 ⟨v7, rfl, o7, hb7⟩
           obtain ⟨A7, c7, rfl, r7, _⟩ := o7.reads
           have oB7 := oB.below hb7
           obtain ⟨_, _, eB, rB7, _⟩ := oB7.reads
           injection eB with eB1 _ eB3
           subst eB1 eB3
           go_wp2_with fail
           have hpl7 := (ptl_len (x := tpt none tn 0 (bo (nms xs))) (herr_tab (by omega)) HTn.out).2
           have e7 : mkp ⟨#[47, 47]⟩ (num 0 0 0 0 (tn : Int)) (bo (nms xs)) = ptl (tpt none tn 0 (bo (nms xs))) := rfl
           rw [e7] at o7 r7 ⊢
           have hpl8 : (ptl (tpt none tn 0 (bo (nms xs)))).length ≤ 7000 := by rw [hpl7]; show 60 + tn + tn % 2 ≤ 7000; omega
           refine (Byt.add_any w7.heap.size w7.heap.size _ A7 bs.length _ (ptl (tpt none tn 0 (bo (nms xs)))).length c7 bs _ w7 rB7 r7 (Nat.le_refl _) (Nat.le_refl _) (by omega) (by omega)).mono ?_
           rintro e w8 ⟨v8, rfl, oB8, hb8⟩
           obtain ⟨A8, c8, rfl, _⟩ := oB8.reads
           have hb07 := hbq.trans (hb7.mono hbq.size)
           have oF8 := (oF.below hb7).below hb8
           replace oB8 := oB8.more hb07.size
           have hb08 := hb07.trans (hb8.mono hb07.size)
           clear oB oB7 rB7 r7 o7 hb7 hb8 hb07 oF hbq oT rT hpl7 hpl8 e7
           have oB := oB8
           have oF := oF8
           have hbq := hb08
           clear oB8 oF8 hb08
           obtain ⟨pre, hpre⟩ : ∃ pre, Arp.magic ++ (flat (mapP false none md.length 0 md) ++ flat (tabP none (bo (nms xs)).length 0 (bo (nms xs)))) = pre := ⟨_, rfl⟩
           have HPre := hid hpre
           have hplen := pre_len false md (bo (nms xs)) (by have := Hmd.out.1; omega) (by have := hlen.out; have := hnl.out; omega)
           rw [hpre] at hplen
           have HBase : Hid (pre.length = base false md.length xs) := hid hplen
           have hpb : pre.length ≤ 29000 := by
             have h1 := hlen.out
             have h2 := hnl.out
             have h3 := Hmd.out.1
             rw [hplen]
             unfold pz
             split <;> split <;> omega
           clear hplen
           have hbs : bs ++ ptl (tpt none tn 0 (bo (nms xs))) = pre := by rw [HBs.out, ← hpre, HTn.out, show tabP none tn 0 (bo (nms xs)) = [tpt none tn 0 (bo (nms xs))] from if_neg ht0, flat_one, List.append_assoc]
           have hbl : bs.length + (ptl (tpt none tn 0 (bo (nms xs)))).length = pre.length := by rw [← hbs, List.length_append]
           rw [hbs, hbl] at oB
           rw [hbl]
           clear hpre hbs hbl
           go_wp2_with fail
           have hKo : pre.length ≤ 29000 := hpb
           have HOf := hid (fun k (hk : k ≤ n) => offAt_le (o := pre.length) hok k (by have := Hl.out; omega))
           have HFl := hid (flat_offAt Hfit.out (by have := Hl.out; omega) Hxl.out pre.length)
           have hst : Byt.Own w8 w.heap.size (.slice A8 (offAt pre.length xs 0) c8) (offAt pre.length xs 0) (pre ++ flat ((bodyP xs).take 0)) := by
             rw [show offAt pre.length xs 0 = pre.length by simp [offAt], List.take_zero, flat_nil, List.append_nil]
             exact oB
           have hlb : Hid (pre.length = offAt pre.length xs 0) := hid (by simp [offAt])
           clear oB hpb
           go_loopw [18, 17, 16] (fun i f v W => ∃ (k : Nat) (A1 : Option Addr) (c1 : Nat) (A2 : Option Addr) (c2 : Nat), i = .int .i64 (k : Int) ∧ f = .slice A1 k c1 ∧ v = .slice A2 (offAt pre.length xs k) c2 ∧ k ≤ n ∧ Cel.Own 3 1 W w.heap.size (.slice A1 k c1) k (ints ((List.range k).map (offAt pre.length xs))) ∧ Byt.Own W w.heap.size (.slice A2 (offAt pre.length xs k) c2) (offAt pre.length xs k) (pre ++ flat ((bodyP xs).take k)) ∧ Sls.Own W w.heap.size (.slice Af n cf) n (fo (nms xs)) ∧ Below w.heap.size w W) (fun i _ _ _ => n - (intOf i).toNat)
           case atStart => exact ⟨0, none, 0, A8, c8, rfl, rfl, by rw [← hlb.out], by omega, Cel.Own.nil _ _ _ _, hst, oF, hbq⟩
           case round =>
             obtain ⟨k, A1, c1, A2, c2, rfl, rfl, rfl, hk, hO, hB, hF, hb⟩ := hrel
             by_cases hlt : k < n
             · have hkl : k < xs.length := by have := Hl.out; omega
               have hki : (k : Int) < (n : Int) := by omega
               obtain ⟨⟨b, o, rfl, hbK, hcell⟩, hxd, _⟩ := (h.below (hb.mono hK)).2 k hkl
               have HBa := hid (bodyP_at Hfit.out hkl)
               have HBl := hid (bodyP_length Hfit.out)
               obtain ⟨fk, hfk⟩ : ∃ fk, fld ((nms xs).take k) xs[k].name = fk := ⟨_, rfl⟩
               have HFk : Hid ((fo (nms xs))[k]? = some fk) := hid (by rw [← hfk]; exact fo_at Hfit.out hkl)
               have hxk := hok xs[k] (List.getElem_mem hkl)
               have hnf : fk.size ≤ 16 := by
                 obtain ⟨k', hk', e, _, hs⟩ := body_mem Hfit.out (by have := Hl.out; omega) (List.getElem_mem (h := show k < (bodyP xs).length by rw [HBl.out]; exact hkl))
                 rw [HBa.out, hfk] at hs
                 exact hs
               have HT : Hid (ints ((List.range (k + 1)).map (offAt pre.length xs)) = ints ((List.range k).map (offAt pre.length xs)) ++ [.int .i64 (offAt pre.length xs k : Int)]) := hid (by rw [List.range_succ]; simp [ints])
               have HS : Hid (pre ++ flat ((bodyP xs).take (k + 1)) = (pre ++ flat ((bodyP xs).take k)) ++ mkp fk (num xs[k].time xs[k].uid xs[k].gid xs[k].mode (xs[k].len : Int)) xs[k].data) := hid (by
                 rw [flat_succ (by rw [HBl.out]; exact hkl), HBa.out, hfk, ← List.append_assoc]
                 rfl)
               have HN : Hid (offAt pre.length xs (k + 1) = offAt pre.length xs k + (mkp fk (num xs[k].time xs[k].uid xs[k].gid xs[k].mode (xs[k].len : Int)) xs[k].data).length) := hid (by
                 have q := (ptl_len (herr_body Hfit.out (by have := Hl.out; omega) hkl) (by exact Hxl.out xs[k] (List.getElem_mem hkl))).2
                 rw [hfk] at q
                 rw [offAt_succ hkl]
                 exact congrArg _ q.symm)
               have hof := HOf.out k hk
               have hml := hid (HOf.out (k + 1) (by omega))
               clear hfk HBa HBl
               generalize xs[k] = x at *
               obtain ⟨x0, x1, x2, x3, x4, x5, x6, x7, x8⟩ := x
               obtain ⟨p0, p1, p2, p3, p4, p5⟩ := hcell
               obtain ⟨_, q2, q3, q4, q5, q6⟩ := hxk
               simp only at *
               generalize hL : mkp fk (num x1 x2 x3 x4 (x6 : Int)) x8 = L at *
               have HL := hid hL
               rw [HN.out] at hml
               clear hL
               obtain ⟨ok, hok2⟩ : ∃ ok, offAt pre.length xs k = ok := ⟨_, rfl⟩
               obtain ⟨on, hon⟩ : ∃ on, offAt pre.length xs (k + 1) = on := ⟨_, rfl⟩
               have HON := hid hon
               rw [hok2] at hB hof hml HN HT ⊢
               rw [hon] at HN
               clear hok2 hon
               go_upto_region 20 with (at_builtin; go_must (refine Cel.wpList_push kI wr w.heap.size (.slice A1 k c1) k _ hO hb.size 1 1 #[.int .i64 (ok : Int)] (0, 0) rfl (by simp [Value.oneCell']) (by omega) (by omega) rfl (.tmp 68) (.tmp 71) rfl rfl rfl ?_); intro v3 w3' hO3 hb3 hot3 _; obtain ⟨A3, c3, rfl, _⟩ := hO3.reads)
               rw [show ints ((List.range k).map (offAt pre.length xs)) ++ #[Value.int .i64 (ok : Int)].toList = ints ((List.range (k + 1)).map (offAt pre.length xs)) by rw [HT.out]] at hO3
               have hF3 := sown_oth hF hot3 (by decide)
               have hB3 := bown_oth hB hot3 (by decide)
               have hb03 := hb.trans hb3
               have hbK3 : b < w.heap.size := by omega
               have r0 := (cell_eq (o := o + k * 6) (hb3.block b hbK3)).trans p0
               have r1 := (cell_eq (o := o + k * 6 + 1) (hb3.block b hbK3)).trans p1
               have r2 := (cell_eq (o := o + k * 6 + 2) (hb3.block b hbK3)).trans p2
               have r3 := (cell_eq (o := o + k * 6 + 3) (hb3.block b hbK3)).trans p3
               have r4 := (cell_eq (o := o + k * 6 + 4) (hb3.block b hbK3)).trans p4
               have r5 := (cell_eq (o := o + k * 6 + 5) (hb3.block b hbK3)).trans p5
               have hxd3 := hxd.below (hb3.mono hK)
               obtain ⟨b', o', ef, hb', hfc, hcf⟩ := fo_get hF3 hlt HFk.out
               subst ef
               have hs3 := hb03.size
               clear hO hB hF hot3 hb3 p0 p1 p2 p3 p4 p5 hb hxd
               refine Ord.Till.begin (fun W' => W'.cell? ⟨b, o + k * 6, none⟩ = some (.string x0) ∧ W'.cell? ⟨b, o + k * 6 + 1, none⟩ = some (.int .i64 x1) ∧ W'.cell? ⟨b, o + k * 6 + 2, none⟩ = some (.int .i64 x2) ∧ W'.cell? ⟨b, o + k * 6 + 3, none⟩ = some (.int .i64 x3) ∧ W'.cell? ⟨b, o + k * 6 + 4, none⟩ = some (.int .i64 x4) ∧ W'.cell? ⟨b, o + k * 6 + 5, none⟩ = some (.slice x5 x6 x7) ∧ W'.cell? ⟨b', o' + k, none⟩ = some (.string fk)) 60 (by kernel_rfl) ?_
               have hS0 : (fun W' => W'.cell? ⟨b, o + k * 6, none⟩ = some (.string x0) ∧ W'.cell? ⟨b, o + k * 6 + 1, none⟩ = some (.int .i64 x1) ∧ W'.cell? ⟨b, o + k * 6 + 2, none⟩ = some (.int .i64 x2) ∧ W'.cell? ⟨b, o + k * 6 + 3, none⟩ = some (.int .i64 x3) ∧ W'.cell? ⟨b, o + k * 6 + 4, none⟩ = some (.int .i64 x4) ∧ W'.cell? ⟨b, o + k * 6 + 5, none⟩ = some (.slice x5 x6 x7) ∧ W'.cell? ⟨b', o' + k, none⟩ = some (.string fk)) w3'.drew := ⟨r0, r1, r2, r3, r4, r5, hfc⟩
               refine Ord.Till.take' 0 (some 73) (oi := _) (x := ?_) rfl rfl (by kernel_rfl) (by kernel_rfl) (by kernel_rfl) (by kernel_rfl) (fun _ _ _ h => h) (by kernel_rfl) ?_ hS0 ?_
               rotate_left 1
               · intro v hv; obtain ⟨z0, z1, z2, z3, z4, z5, z6⟩ := hv; go_simp; first | done | with_reducible rfl
               try simp only [Act.put, List.setIfInBounds_toArray, List.set_cons_zero, List.set_cons_succ]
               refine Ord.Till.take' 1 (some 74) (oi := _) (x := ?_) rfl rfl (by kernel_rfl) (by kernel_rfl) (by kernel_rfl) (by kernel_rfl) (fun _ _ _ h => h) (by kernel_rfl) ?_ hS0 ?_
               rotate_left 1
               · intro v hv; obtain ⟨z0, z1, z2, z3, z4, z5, z6⟩ := hv; go_simp; first | done | with_reducible rfl
               try simp only [Act.put, List.setIfInBounds_toArray, List.set_cons_zero, List.set_cons_succ]
               refine Ord.Till.take' 2 (some 75) (oi := _) (x := ?_) rfl rfl (by kernel_rfl) (by kernel_rfl) (by kernel_rfl) (by kernel_rfl) (fun _ _ _ h => h) (by kernel_rfl) ?_ hS0 ?_
               rotate_left 1
               · intro v hv; obtain ⟨z0, z1, z2, z3, z4, z5, z6⟩ := hv; go_simp; first | done | with_reducible rfl
               try simp only [Act.put, List.setIfInBounds_toArray, List.set_cons_zero, List.set_cons_succ]
               refine Ord.Till.take' 3 (some 76) (oi := _) (x := ?_) rfl rfl (by kernel_rfl) (by kernel_rfl) (by kernel_rfl) (by kernel_rfl) (fun _ _ _ h => h) (by kernel_rfl) ?_ hS0 ?_
               rotate_left 1
               · intro v hv; obtain ⟨z0, z1, z2, z3, z4, z5, z6⟩ := hv; go_simp; first | done | with_reducible rfl
               try simp only [Act.put, List.setIfInBounds_toArray, List.set_cons_zero, List.set_cons_succ]
               refine Ord.Till.take' 4 (some 77) (oi := _) (x := ?_) rfl rfl (by kernel_rfl) (by kernel_rfl) (by kernel_rfl) (by kernel_rfl) (fun _ _ _ h => h) (by kernel_rfl) ?_ hS0 ?_
               rotate_left 1
               · intro v hv; obtain ⟨z0, z1, z2, z3, z4, z5, z6⟩ := hv; go_simp; first | done | with_reducible rfl
               try simp only [Act.put, List.setIfInBounds_toArray, List.set_cons_zero, List.set_cons_succ]
               refine Ord.Till.take' 5 (some 78) (oi := _) (x := ?_) rfl rfl (by kernel_rfl) (by kernel_rfl) (by kernel_rfl) (by kernel_rfl) (fun _ _ _ h => h) (by kernel_rfl) ?_ hS0 ?_
               rotate_left 1
               · intro v hv; obtain ⟨z0, z1, z2, z3, z4, z5, z6⟩ := hv; go_simp; first | done | with_reducible rfl
               try simp only [Act.put, List.setIfInBounds_toArray, List.set_cons_zero, List.set_cons_succ]
               refine Ord.Till.take' 6 (some 79) (oi := _) (x := ?_) rfl rfl (by kernel_rfl) (by kernel_rfl) (by kernel_rfl) (by kernel_rfl) (fun _ _ _ h => h) (by kernel_rfl) ?_ hS0 ?_
               rotate_left 1
               · intro v hv; obtain ⟨z0, z1, z2, z3, z4, z5, z6⟩ := hv; go_simp; first | done | with_reducible rfl
               try simp only [Act.put, List.setIfInBounds_toArray, List.set_cons_zero, List.set_cons_succ]
               refine Ord.Till.take' 7 (some 80) (oi := _) (x := ?_) rfl rfl (by kernel_rfl) (by kernel_rfl) (by kernel_rfl) (by kernel_rfl) (fun _ _ _ h => h) (by kernel_rfl) ?_ hS0 ?_
               rotate_left 1
               · intro v hv; obtain ⟨z0, z1, z2, z3, z4, z5, z6⟩ := hv; go_simp; first | done | with_reducible rfl
               try simp only [Act.put, List.setIfInBounds_toArray, List.set_cons_zero, List.set_cons_succ]
               refine Ord.Till.take' 8 (some 81) (oi := _) (x := ?_) rfl rfl (by kernel_rfl) (by kernel_rfl) (by kernel_rfl) (by kernel_rfl) (fun _ _ _ h => h) (by kernel_rfl) ?_ hS0 ?_
               rotate_left 1
               · intro v hv; obtain ⟨z0, z1, z2, z3, z4, z5, z6⟩ := hv; go_simp; first | done | with_reducible rfl
               try simp only [Act.put, List.setIfInBounds_toArray, List.set_cons_zero, List.set_cons_succ]
               refine Ord.Till.take' 9 (some 82) (oi := _) (x := ?_) rfl rfl (by kernel_rfl) (by kernel_rfl) (by kernel_rfl) (by kernel_rfl) (fun _ _ _ h => h) (by kernel_rfl) ?_ hS0 ?_
               rotate_left 1
               · intro v hv; obtain ⟨z0, z1, z2, z3, z4, z5, z6⟩ := hv; go_simp; first | done | with_reducible rfl
               try simp only [Act.put, List.setIfInBounds_toArray, List.set_cons_zero, List.set_cons_succ]
               refine Ord.Till.take' 10 (some 83) (oi := _) (x := ?_) rfl rfl (by kernel_rfl) (by kernel_rfl) (by kernel_rfl) (by kernel_rfl) (fun _ _ _ h => h) (by kernel_rfl) ?_ hS0 ?_
               rotate_left 1
               · intro v hv; obtain ⟨z0, z1, z2, z3, z4, z5, z6⟩ := hv; go_simp; first | done | with_reducible rfl
               try simp only [Act.put, List.setIfInBounds_toArray, List.set_cons_zero, List.set_cons_succ]
               refine Ord.Till.take' 11 (some 84) (oi := _) (x := ?_) rfl rfl (by kernel_rfl) (by kernel_rfl) (by kernel_rfl) (by kernel_rfl) (fun _ _ _ h => h) (by kernel_rfl) ?_ hS0 ?_
               rotate_left 1
               · intro v hv; obtain ⟨z0, z1, z2, z3, z4, z5, z6⟩ := hv; go_simp; first | done | with_reducible rfl
               try simp only [Act.put, List.setIfInBounds_toArray, List.set_cons_zero, List.set_cons_succ]
               refine Ord.Till.take' 12 (some 85) (oi := _) (x := ?_) rfl rfl (by kernel_rfl) (by kernel_rfl) (by kernel_rfl) (by kernel_rfl) (fun _ _ _ h => h) (by kernel_rfl) ?_ hS0 ?_
               rotate_left 1
               · intro v hv; obtain ⟨z0, z1, z2, z3, z4, z5, z6⟩ := hv; go_simp; first | done | with_reducible rfl
               try simp only [Act.put, List.setIfInBounds_toArray, List.set_cons_zero, List.set_cons_succ]
               refine Ord.Till.take' 13 (some 86) (oi := _) (x := ?_) rfl rfl (by kernel_rfl) (by kernel_rfl) (by kernel_rfl) (by kernel_rfl) (fun _ _ _ h => h) (by kernel_rfl) ?_ hS0 ?_
               rotate_left 1
               · intro v hv; obtain ⟨z0, z1, z2, z3, z4, z5, z6⟩ := hv; go_simp; first | done | with_reducible rfl
               try simp only [Act.put, List.setIfInBounds_toArray, List.set_cons_zero, List.set_cons_succ]
               refine Ord.Till.take' 14 (some 87) (oi := _) (x := ?_) rfl rfl (by kernel_rfl) (by kernel_rfl) (by kernel_rfl) (by kernel_rfl) (fun _ _ _ h => h) (by kernel_rfl) ?_ hS0 ?_
               rotate_left 1
               · intro v hv; obtain ⟨z0, z1, z2, z3, z4, z5, z6⟩ := hv; go_simp; first | done | with_reducible rfl
               try simp only [Act.put, List.setIfInBounds_toArray, List.set_cons_zero, List.set_cons_succ]
               refine Ord.Till.take' 15 (some 88) (oi := _) (x := ?_) rfl rfl (by kernel_rfl) (by kernel_rfl) (by kernel_rfl) (by kernel_rfl) (fun _ _ _ h => h) (by kernel_rfl) ?_ hS0 ?_
               rotate_left 1
               · intro v hv; obtain ⟨z0, z1, z2, z3, z4, z5, z6⟩ := hv; go_simp; first | done | with_reducible rfl
               try simp only [Act.put, List.setIfInBounds_toArray, List.set_cons_zero, List.set_cons_succ]
               refine Ord.Till.take' 16 (some 89) (oi := _) (x := ?_) rfl rfl (by kernel_rfl) (by kernel_rfl) (by kernel_rfl) (by kernel_rfl) (fun _ _ _ h => h) (by kernel_rfl) ?_ hS0 ?_
               rotate_left 1
               · intro v hv; obtain ⟨z0, z1, z2, z3, z4, z5, z6⟩ := hv; go_simp; first | done | with_reducible rfl
               try simp only [Act.put, List.setIfInBounds_toArray, List.set_cons_zero, List.set_cons_succ]
               refine Ord.Till.take' 17 (some 90) (oi := _) (x := ?_) rfl rfl (by kernel_rfl) (by kernel_rfl) (by kernel_rfl) (by kernel_rfl) (fun _ _ _ h => h) (by kernel_rfl) ?_ hS0 ?_
               rotate_left 1
               · intro v hv; obtain ⟨z0, z1, z2, z3, z4, z5, z6⟩ := hv; go_simp; first | done | with_reducible rfl
               try simp only [Act.put, List.setIfInBounds_toArray, List.set_cons_zero, List.set_cons_succ]
               refine Ord.Till.take' 18 (some 91) (oi := _) (x := ?_) rfl rfl (by kernel_rfl) (by kernel_rfl) (by kernel_rfl) (by kernel_rfl) (fun _ _ _ h => h) (by kernel_rfl) ?_ hS0 ?_
               rotate_left 1
               · intro v hv; obtain ⟨z0, z1, z2, z3, z4, z5, z6⟩ := hv; go_simp; first | done | with_reducible rfl
               try simp only [Act.put, List.setIfInBounds_toArray, List.set_cons_zero, List.set_cons_succ]
               refine Ord.Till.take' 19 (some 92) (oi := _) (x := ?_) rfl rfl (by kernel_rfl) (by kernel_rfl) (by kernel_rfl) (by kernel_rfl) (fun _ _ _ h => h) (by kernel_rfl) ?_ hS0 ?_
               rotate_left 1
               · intro v hv; obtain ⟨z0, z1, z2, z3, z4, z5, z6⟩ := hv; go_simp; first | done | with_reducible rfl
               try simp only [Act.put, List.setIfInBounds_toArray, List.set_cons_zero, List.set_cons_succ]
               refine Ord.Till.take' 20 (some 93) (oi := _) (x := ?_) rfl rfl (by kernel_rfl) (by kernel_rfl) (by kernel_rfl) (by kernel_rfl) (fun _ _ _ h => h) (by kernel_rfl) ?_ hS0 ?_
               rotate_left 1
               · intro v hv; obtain ⟨z0, z1, z2, z3, z4, z5, z6⟩ := hv; go_simp; first | done | with_reducible rfl
               try simp only [Act.put, List.setIfInBounds_toArray, List.set_cons_zero, List.set_cons_succ]
               refine Ord.Till.take' 21 (some 94) (oi := _) (x := ?_) rfl rfl (by kernel_rfl) (by kernel_rfl) (by kernel_rfl) (by kernel_rfl) (fun _ _ _ h => h) (by kernel_rfl) ?_ hS0 ?_
               rotate_left 1
               · intro v hv; obtain ⟨z0, z1, z2, z3, z4, z5, z6⟩ := hv; go_simp; first | done | with_reducible rfl
               try simp only [Act.put, List.setIfInBounds_toArray, List.set_cons_zero, List.set_cons_succ]
               refine Ord.Till.take' 22 (some 95) (oi := _) (x := ?_) rfl rfl (by kernel_rfl) (by kernel_rfl) (by kernel_rfl) (by kernel_rfl) (fun _ _ _ h => h) (by kernel_rfl) ?_ hS0 ?_
               rotate_left 1
               · intro v hv; obtain ⟨z0, z1, z2, z3, z4, z5, z6⟩ := hv; go_simp; first | done | with_reducible rfl
               try simp only [Act.put, List.setIfInBounds_toArray, List.set_cons_zero, List.set_cons_succ]
               refine Ord.Till.take' 23 (some 96) (oi := _) (x := ?_) rfl rfl (by kernel_rfl) (by kernel_rfl) (by kernel_rfl) (by kernel_rfl) (fun _ _ _ h => h) (by kernel_rfl) ?_ hS0 ?_
               rotate_left 1
               · intro v hv; obtain ⟨z0, z1, z2, z3, z4, z5, z6⟩ := hv; go_simp; first | done | with_reducible rfl
               try simp only [Act.put, List.setIfInBounds_toArray, List.set_cons_zero, List.set_cons_succ]
               refine Ord.Till.take' 24 (some 97) (oi := _) (x := ?_) rfl rfl (by kernel_rfl) (by kernel_rfl) (by kernel_rfl) (by kernel_rfl) (fun _ _ _ h => h) (by kernel_rfl) ?_ hS0 ?_
               rotate_left 1
               · intro v hv; obtain ⟨z0, z1, z2, z3, z4, z5, z6⟩ := hv; go_simp; first | done | with_reducible rfl
               try simp only [Act.put, List.setIfInBounds_toArray, List.set_cons_zero, List.set_cons_succ]
               refine Ord.Till.take' 25 (some 98) (oi := _) (x := ?_) rfl rfl (by kernel_rfl) (by kernel_rfl) (by kernel_rfl) (by kernel_rfl) (fun _ _ _ h => h) (by kernel_rfl) ?_ hS0 ?_
               rotate_left 1
               · intro v hv; obtain ⟨z0, z1, z2, z3, z4, z5, z6⟩ := hv; go_simp; first | done | with_reducible rfl
               try simp only [Act.put, List.setIfInBounds_toArray, List.set_cons_zero, List.set_cons_succ]
               refine Ord.Till.take' 26 (some 99) (oi := _) (x := ?_) rfl rfl (by kernel_rfl) (by kernel_rfl) (by kernel_rfl) (by kernel_rfl) (fun _ _ _ h => h) (by kernel_rfl) ?_ hS0 ?_
               rotate_left 1
               · intro v hv; obtain ⟨z0, z1, z2, z3, z4, z5, z6⟩ := hv; go_simp; first | done | with_reducible rfl
               try simp only [Act.put, List.setIfInBounds_toArray, List.set_cons_zero, List.set_cons_succ]
               refine Ord.Till.take' 27 (some 100) (oi := _) (x := ?_) rfl rfl (by kernel_rfl) (by kernel_rfl) (by kernel_rfl) (by kernel_rfl) (fun _ _ _ h => h) (by kernel_rfl) ?_ hS0 ?_
               rotate_left 1
               · intro v hv; obtain ⟨z0, z1, z2, z3, z4, z5, z6⟩ := hv; go_simp; first | done | with_reducible rfl
               try simp only [Act.put, List.setIfInBounds_toArray, List.set_cons_zero, List.set_cons_succ]
               refine Ord.Till.take' 28 (some 101) (oi := _) (x := ?_) rfl rfl (by kernel_rfl) (by kernel_rfl) (by kernel_rfl) (by kernel_rfl) (fun _ _ _ h => h) (by kernel_rfl) ?_ hS0 ?_
               rotate_left 1
               · intro v hv; obtain ⟨z0, z1, z2, z3, z4, z5, z6⟩ := hv; go_simp; first | done | with_reducible rfl
               try simp only [Act.put, List.setIfInBounds_toArray, List.set_cons_zero, List.set_cons_succ]
               refine Ord.Till.take' 29 (some 102) (oi := _) (x := ?_) rfl rfl (by kernel_rfl) (by kernel_rfl) (by kernel_rfl) (by kernel_rfl) (fun _ _ _ h => h) (by kernel_rfl) ?_ hS0 ?_
               rotate_left 1
               · intro v hv; obtain ⟨z0, z1, z2, z3, z4, z5, z6⟩ := hv; go_simp; first | done | with_reducible rfl
               try simp only [Act.put, List.setIfInBounds_toArray, List.set_cons_zero, List.set_cons_succ]
               refine Ord.Till.take' 30 (some 103) (oi := _) (x := ?_) rfl rfl (by kernel_rfl) (by kernel_rfl) (by kernel_rfl) (by kernel_rfl) (fun _ _ _ h => h) (by kernel_rfl) ?_ hS0 ?_
               rotate_left 1
               · intro v hv; obtain ⟨z0, z1, z2, z3, z4, z5, z6⟩ := hv; go_simp; first | done | with_reducible rfl
               try simp only [Act.put, List.setIfInBounds_toArray, List.set_cons_zero, List.set_cons_succ]
               refine Ord.Till.step 31 (by kernel_rfl) rfl (fun C hC => ?_)
               go_simp
               go_at_call 42
               refine (rpart_any fk x1 x2 x3 x4 0 K x5 x6 x7 x8 w3'.drew (hxd3.drewN 1) (show K ≤ w3'.heap.size by omega) (by omega) (by omega) q3 q4 q5 q6).mono ?_
               rw [HL.out]
               rintro e w4' ⟨v4, rfl, o4, hb4⟩
               have hb4' : Below w3'.heap.size w3' w4' := (Below.refl _ _).drew.trans hb4
               obtain ⟨A4, c4, rfl, r4', _⟩ := o4.reads
               have hO4 := hO3.below hb4'
               have hB4 := hB3.below hb4'
               have hF4 := hF3.below hb4'
               have hb04 := hb03.trans (hb4'.mono hs3)
               have hs4 := hb4'.size
               have hS4 : (fun W' => W'.cell? ⟨b, o + k * 6, none⟩ = some (.string x0) ∧ W'.cell? ⟨b, o + k * 6 + 1, none⟩ = some (.int .i64 x1) ∧ W'.cell? ⟨b, o + k * 6 + 2, none⟩ = some (.int .i64 x2) ∧ W'.cell? ⟨b, o + k * 6 + 3, none⟩ = some (.int .i64 x3) ∧ W'.cell? ⟨b, o + k * 6 + 4, none⟩ = some (.int .i64 x4) ∧ W'.cell? ⟨b, o + k * 6 + 5, none⟩ = some (.slice x5 x6 x7) ∧ W'.cell? ⟨b', o' + k, none⟩ = some (.string fk)) w4' := ⟨(cell_eq (hb4'.block b (by omega))).trans r0, (cell_eq (hb4'.block b (by omega))).trans r1, (cell_eq (hb4'.block b (by omega))).trans r2, (cell_eq (hb4'.block b (by omega))).trans r3, (cell_eq (hb4'.block b (by omega))).trans r4, (cell_eq (hb4'.block b (by omega))).trans r5, (cell_eq (hb4'.block b' hb')).trans hfc⟩
               go_wp2_with fail
               refine hC.out _ _ (fun _ => hS4) ?_
               clear hC C hS0 hO3 hB3 hF3 hb03 hb4 o4
               try simp only [List.getElem_toArray, List.getElem_cons_zero, List.getElem_cons_succ, Act.put, List.setIfInBounds_toArray, List.set_cons_zero, List.set_cons_succ]
               obtain ⟨_, _, eB, rB4, _⟩ := hB4.reads
               injection eB with eB1 _ eB3
               subst eB1 eB3
               refine Ord.Till.step 32 (by kernel_rfl) rfl (fun C hC => ?_)
               go_simp
               go_at_call 41
               refine (Byt.add_any w4'.heap.size w4'.heap.size A2 A4 ok c2 L.length c4 _ L w4' rB4 r4' (Nat.le_refl _) (Nat.le_refl _) (by omega) (by have := hml.out; omega)).mono ?_
               rintro e w5' ⟨v5, rfl, o5, hb5⟩
               obtain ⟨A5, c5, rfl, _⟩ := o5.reads
               replace o5 := o5.more hb04.size
               have hO5 := hO4.below hb5
               have hF5 := hF4.below hb5
               have hb05 := hb04.trans (hb5.mono hb04.size)
               have hS5 : (fun W' => W'.cell? ⟨b, o + k * 6, none⟩ = some (.string x0) ∧ W'.cell? ⟨b, o + k * 6 + 1, none⟩ = some (.int .i64 x1) ∧ W'.cell? ⟨b, o + k * 6 + 2, none⟩ = some (.int .i64 x2) ∧ W'.cell? ⟨b, o + k * 6 + 3, none⟩ = some (.int .i64 x3) ∧ W'.cell? ⟨b, o + k * 6 + 4, none⟩ = some (.int .i64 x4) ∧ W'.cell? ⟨b, o + k * 6 + 5, none⟩ = some (.slice x5 x6 x7) ∧ W'.cell? ⟨b', o' + k, none⟩ = some (.string fk)) w5' := by
                 obtain ⟨s0, s1, s2, s3, s4, s5, s6⟩ := hS4
                 exact ⟨(cell_eq (hb5.block b (by omega))).trans s0, (cell_eq (hb5.block b (by omega))).trans s1, (cell_eq (hb5.block b (by omega))).trans s2, (cell_eq (hb5.block b (by omega))).trans s3, (cell_eq (hb5.block b (by omega))).trans s4, (cell_eq (hb5.block b (by omega))).trans s5, (cell_eq (hb5.block b' (by omega))).trans s6⟩
               go_wp2_with fail
               refine hC.out _ _ (fun _ => hS5) ?_
               clear hC C hS4 hO4 hB4 hF4 hb04 hb5 rB4 r4'
               try simp only [List.getElem_toArray, List.getElem_cons_zero, List.getElem_cons_succ, Act.put, List.setIfInBounds_toArray, List.set_cons_zero, List.set_cons_succ]
               refine Ord.Till.step 33 (by kernel_rfl) rfl (fun C hC => ?_)
               go_simp
               refine hC.out _ _ (fun _ => hS5) ?_
               clear hC C
               try simp only [List.getElem_toArray, List.getElem_cons_zero, List.getElem_cons_succ, Act.put, List.setIfInBounds_toArray, List.set_cons_zero, List.set_cons_succ]
               refine Ord.Till.done (by kernel_rfl) ?_ _
               clear hS5 r0 r1 r2 r3 r4 r5 hfc hb'
               rw [← HN.out, ← HS.out] at o5
               rw [← HN.out]
               go_wp2_with fail
               go_roundw
               all_goals first
                 | exact ⟨k + 1, A3, c3, A5, c5, by go_num, rfl, by rw [HON.out], by omega, hO5, by rw [HON.out]; exact o5, hF5, hb05⟩
                 | (simp [intOf]; omega)
             · obtain rfl : k = n := by omega
               have hTk : (bodyP xs).take k = bodyP xs := List.take_of_length_le (by rw [bodyP_length Hfit.out]; have := Hl.out; omega)
               have hfo := HFl.out k (by have := Hl.out; omega)
               rw [hTk] at hB hfo
               have HR := hid (RWrites.fin (hm := false) HF0.out HPre.out HBase.out Hl.out hfo hO hB hb)
               clear hfo hO hB hb hTk
               generalize offAt pre.length xs k = ok at *
               go_wp2_with fail
               go_ret3
               exact HR.out
       · go_wp2_with fail
         refine (rpart_any ⟨#[47]⟩ 0 0 0 0 0 Km mA mn mc md w4 (Hmd.out.below (hb04.mono hKm)) (by have := hb04.size; omega) (by omega) (by show (1 : Nat) ≤ 1000; decide) (by decide) (by decide) (by decide) (by decide)).mono ?_
         rintro e w5 ⟨v5, rfl, o5, hb5⟩
         obtain ⟨A5, c5, rfl, r5, _⟩ := o5.reads
         have oM5 := oM.below hb5
         obtain ⟨_, _, eM, rM5, _⟩ := oM5.reads
         injection eM with eM1 _ eM3
         subst eM1 eM3
         go_wp2_with fail
         have hmdl := Hmd.out.1
         have hpl5 := (ptl_len (x := mpt none mn 0 md) (herr_map (by omega)) hmdl).2
         have e5 : mkp ⟨#[47]⟩ (num 0 0 0 0 (mn : Int)) md = ptl (mpt none mn 0 md) := rfl
         rw [e5] at o5 r5 ⊢
         have hpl6 : (ptl (mpt none mn 0 md)).length ≤ 22000 := by rw [hpl5]; show 60 + mn + mn % 2 ≤ 22000; omega
         refine (Byt.add_any w5.heap.size w5.heap.size _ A5 8 _ (ptl (mpt none mn 0 md)).length c5 Arp.magic _ w5 rM5 r5 (Nat.le_refl _) (Nat.le_refl _) (by omega) (by omega)).mono ?_
         rintro e w6 ⟨v6, rfl, oB6, hb6⟩
         obtain ⟨A6, c6, rfl, _⟩ := oB6.reads
         have hb05 := hb04.trans (hb5.mono hb04.size)
         replace oB6 := oB6.more hb05.size
         have oF := (oF4.below hb5).below hb6
         have oT := (oT4.below hb5).below hb6
         have hbq := hb05.trans (hb6.mono hb05.size)
         obtain ⟨bs, hbs0⟩ : ∃ bs, Arp.magic ++ ptl (mpt none mn 0 md) = bs := ⟨_, rfl⟩
         have hbl8 : 8 + (ptl (mpt none mn 0 md)).length = bs.length := by rw [← hbs0, List.length_append]; rfl
         have HBs : Hid (bs = Arp.magic ++ flat (mapP true none md.length 0 md)) := hid (by rw [← hbs0, hmdl]; show _ = Arp.magic ++ flat [_]; rw [flat_one])
         have oB := oB6
         rw [hbs0, hbl8] at oB
         rw [hbl8]
         have hbsb : bs.length ≤ 23000 := by omega
         clear oM oM5 rM5 o5 r5 hb5 hb6 hb05 oB6 hb04 oF4 oT4 hbs0 hbl8 hpl5 hpl6 e5 hmdl
         by_cases ht0 : tn = 0
         · have hti : ¬ (0 : Int) < (tn : Int) := by omega
           obtain ⟨pre, hpre⟩ : ∃ pre, Arp.magic ++ (flat (mapP true none md.length 0 md) ++ flat (tabP none (bo (nms xs)).length 0 (bo (nms xs)))) = pre := ⟨_, rfl⟩
           have HPre := hid hpre
           have hplen := pre_len true md (bo (nms xs)) (by have := Hmd.out.1; omega) (by have := hlen.out; have := hnl.out; omega)
           rw [hpre] at hplen
           have HBase : Hid (pre.length = base true md.length xs) := hid hplen
           have hpb : pre.length ≤ 29000 := by
             have h1 := hlen.out
             have h2 := hnl.out
             have h3 := Hmd.out.1
             rw [hplen]
             unfold pz
             split <;> split <;> omega
           clear hplen
           have hbs : pre = bs := by rw [HBs.out, ← hpre, HTn.out, ht0]; simp [tabP, flat]
           subst hbs
           clear hpre
           go_wp2_with fail
           have hKo : pre.length ≤ 29000 := hpb
           have HOf := hid (fun k (hk : k ≤ n) => offAt_le (o := pre.length) hok k (by have := Hl.out; omega))
           have HFl := hid (flat_offAt Hfit.out (by have := Hl.out; omega) Hxl.out pre.length)
           have hst : Byt.Own w6 w.heap.size (.slice A6 (offAt pre.length xs 0) c6) (offAt pre.length xs 0) (pre ++ flat ((bodyP xs).take 0)) := by
             rw [show offAt pre.length xs 0 = pre.length by simp [offAt], List.take_zero, flat_nil, List.append_nil]
             exact oB
           have hlb : Hid (pre.length = offAt pre.length xs 0) := hid (by simp [offAt])
           clear oB hpb
           go_loopw [18, 17, 16] (fun i f v W => ∃ (k : Nat) (A1 : Option Addr) (c1 : Nat) (A2 : Option Addr) (c2 : Nat), i = .int .i64 (k : Int) ∧ f = .slice A1 k c1 ∧ v = .slice A2 (offAt pre.length xs k) c2 ∧ k ≤ n ∧ Cel.Own 3 1 W w.heap.size (.slice A1 k c1) k (ints ((List.range k).map (offAt pre.length xs))) ∧ Byt.Own W w.heap.size (.slice A2 (offAt pre.length xs k) c2) (offAt pre.length xs k) (pre ++ flat ((bodyP xs).take k)) ∧ Sls.Own W w.heap.size (.slice Af n cf) n (fo (nms xs)) ∧ Below w.heap.size w W) (fun i _ _ _ => n - (intOf i).toNat)
           case atStart => exact ⟨0, none, 0, A6, c6, rfl, rfl, by rw [← hlb.out], by omega, Cel.Own.nil _ _ _ _, hst, oF, hbq⟩
           case round =>
             obtain ⟨k, A1, c1, A2, c2, rfl, rfl, rfl, hk, hO, hB, hF, hb⟩ := hrel
             by_cases hlt : k < n
             · have hkl : k < xs.length := by have := Hl.out; omega
               have hki : (k : Int) < (n : Int) := by omega
               obtain ⟨⟨b, o, rfl, hbK, hcell⟩, hxd, _⟩ := (h.below (hb.mono hK)).2 k hkl
               have HBa := hid (bodyP_at Hfit.out hkl)
               have HBl := hid (bodyP_length Hfit.out)
               obtain ⟨fk, hfk⟩ : ∃ fk, fld ((nms xs).take k) xs[k].name = fk := ⟨_, rfl⟩
               have HFk : Hid ((fo (nms xs))[k]? = some fk) := hid (by rw [← hfk]; exact fo_at Hfit.out hkl)
               have hxk := hok xs[k] (List.getElem_mem hkl)
               have hnf : fk.size ≤ 16 := by
                 obtain ⟨k', hk', e, _, hs⟩ := body_mem Hfit.out (by have := Hl.out; omega) (List.getElem_mem (h := show k < (bodyP xs).length by rw [HBl.out]; exact hkl))
                 rw [HBa.out, hfk] at hs
                 exact hs
               have HT : Hid (ints ((List.range (k + 1)).map (offAt pre.length xs)) = ints ((List.range k).map (offAt pre.length xs)) ++ [.int .i64 (offAt pre.length xs k : Int)]) := hid (by rw [List.range_succ]; simp [ints])
               have HS : Hid (pre ++ flat ((bodyP xs).take (k + 1)) = (pre ++ flat ((bodyP xs).take k)) ++ mkp fk (num xs[k].time xs[k].uid xs[k].gid xs[k].mode (xs[k].len : Int)) xs[k].data) := hid (by
                 rw [flat_succ (by rw [HBl.out]; exact hkl), HBa.out, hfk, ← List.append_assoc]
                 rfl)
               have HN : Hid (offAt pre.length xs (k + 1) = offAt pre.length xs k + (mkp fk (num xs[k].time xs[k].uid xs[k].gid xs[k].mode (xs[k].len : Int)) xs[k].data).length) := hid (by
                 have q := (ptl_len (herr_body Hfit.out (by have := Hl.out; omega) hkl) (by exact Hxl.out xs[k] (List.getElem_mem hkl))).2
                 rw [hfk] at q
                 rw [offAt_succ hkl]
                 exact congrArg _ q.symm)
               have hof := HOf.out k hk
               have hml := hid (HOf.out (k + 1) (by omega))
               clear hfk HBa HBl
               generalize xs[k] = x at *
               obtain ⟨x0, x1, x2, x3, x4, x5, x6, x7, x8⟩ := x
               obtain ⟨p0, p1, p2, p3, p4, p5⟩ := hcell
               obtain ⟨_, q2, q3, q4, q5, q6⟩ := hxk
               simp only at *
               generalize hL : mkp fk (num x1 x2 x3 x4 (x6 : Int)) x8 = L at *
               have HL := hid hL
               rw [HN.out] at hml
               clear hL
               obtain ⟨ok, hok2⟩ : ∃ ok, offAt pre.length xs k = ok := ⟨_, rfl⟩
               obtain ⟨on, hon⟩ : ∃ on, offAt pre.length xs (k + 1) = on := ⟨_, rfl⟩
               have HON := hid hon
               rw [hok2] at hB hof hml HN HT ⊢
               rw [hon] at HN
               clear hok2 hon
               go_upto_region 20 with (at_builtin; go_must (refine Cel.wpList_push kI wr w.heap.size (.slice A1 k c1) k _ hO hb.size 1 1 #[.int .i64 (ok : Int)] (0, 0) rfl (by simp [Value.oneCell']) (by omega) (by omega) rfl (.tmp 68) (.tmp 71) rfl rfl rfl ?_); intro v3 w3' hO3 hb3 hot3 _; obtain ⟨A3, c3, rfl, _⟩ := hO3.reads)
               rw [show ints ((List.range k).map (offAt pre.length xs)) ++ #[Value.int .i64 (ok : Int)].toList = ints ((List.range (k + 1)).map (offAt pre.length xs)) by rw [HT.out]] at hO3
               have hF3 := sown_oth hF hot3 (by decide)
               have hB3 := bown_oth hB hot3 (by decide)
               have hb03 := hb.trans hb3
               have hbK3 : b < w.heap.size := by omega
               have r0 := (cell_eq (o := o + k * 6) (hb3.block b hbK3)).trans p0
               have r1 := (cell_eq (o := o + k * 6 + 1) (hb3.block b hbK3)).trans p1
               have r2 := (cell_eq (o := o + k * 6 + 2) (hb3.block b hbK3)).trans p2
               have r3 := (cell_eq (o := o + k * 6 + 3) (hb3.block b hbK3)).trans p3
               have r4 := (cell_eq (o := o + k * 6 + 4) (hb3.block b hbK3)).trans p4
               have r5 := (cell_eq (o := o + k * 6 + 5) (hb3.block b hbK3)).trans p5
               have hxd3 := hxd.below (hb3.mono hK)
               obtain ⟨b', o', ef, hb', hfc, hcf⟩ := fo_get hF3 hlt HFk.out
               subst ef
               have hs3 := hb03.size
               clear hO hB hF hot3 hb3 p0 p1 p2 p3 p4 p5 hb hxd
               refine Ord.Till.begin (fun W' => W'.cell? ⟨b, o + k * 6, none⟩ = some (.string x0) ∧ W'.cell? ⟨b, o + k * 6 + 1, none⟩ = some (.int .i64 x1) ∧ W'.cell? ⟨b, o + k * 6 + 2, none⟩ = some (.int .i64 x2) ∧ W'.cell? ⟨b, o + k * 6 + 3, none⟩ = some (.int .i64 x3) ∧ W'.cell? ⟨b, o + k * 6 + 4, none⟩ = some (.int .i64 x4) ∧ W'.cell? ⟨b, o + k * 6 + 5, none⟩ = some (.slice x5 x6 x7) ∧ W'.cell? ⟨b', o' + k, none⟩ = some (.string fk)) 60 (by kernel_rfl) ?_
               have hS0 : (fun W' => W'.cell? ⟨b, o + k * 6, none⟩ = some (.string x0) ∧ W'.cell? ⟨b, o + k * 6 + 1, none⟩ = some (.int .i64 x1) ∧ W'.cell? ⟨b, o + k * 6 + 2, none⟩ = some (.int .i64 x2) ∧ W'.cell? ⟨b, o + k * 6 + 3, none⟩ = some (.int .i64 x3) ∧ W'.cell? ⟨b, o + k * 6 + 4, none⟩ = some (.int .i64 x4) ∧ W'.cell? ⟨b, o + k * 6 + 5, none⟩ = some (.slice x5 x6 x7) ∧ W'.cell? ⟨b', o' + k, none⟩ = some (.string fk)) w3'.drew := ⟨r0, r1, r2, r3, r4, r5, hfc⟩
               refine Ord.Till.take' 0 (some 73) (oi := _) (x := ?_) rfl rfl (by kernel_rfl) (by kernel_rfl) (by kernel_rfl) (by kernel_rfl) (fun _ _ _ h => h) (by kernel_rfl) ?_ hS0 ?_
               rotate_left 1
               · intro v hv; obtain ⟨z0, z1, z2, z3, z4, z5, z6⟩ := hv; go_simp; first | done | with_reducible rfl
               try simp only [Act.put, List.setIfInBounds_toArray, List.set_cons_zero, List.set_cons_succ]
               refine Ord.Till.take' 1 (some 74) (oi := _) (x := ?_) rfl rfl (by kernel_rfl) (by kernel_rfl) (by kernel_rfl) (by kernel_rfl) (fun _ _ _ h => h) (by kernel_rfl) ?_ hS0 ?_
               rotate_left 1
               · intro v hv; obtain ⟨z0, z1, z2, z3, z4, z5, z6⟩ := hv; go_simp; first | done | with_reducible rfl
               try simp only [Act.put, List.setIfInBounds_toArray, List.set_cons_zero, List.set_cons_succ]
               refine Ord.Till.take' 2 (some 75) (oi := _) (x := ?_) rfl rfl (by kernel_rfl) (by kernel_rfl) (by kernel_rfl) (by kernel_rfl) (fun _ _ _ h => h) (by kernel_rfl) ?_ hS0 ?_
               rotate_left 1
               · intro v hv; obtain ⟨z0, z1, z2, z3, z4, z5, z6⟩ := hv; go_simp; first | done | with_reducible rfl
               try simp only [Act.put, List.setIfInBounds_toArray, List.set_cons_zero, List.set_cons_succ]
               refine Ord.Till.take' 3 (some 76) (oi := _) (x := ?_) rfl rfl (by kernel_rfl) (by kernel_rfl) (by kernel_rfl) (by kernel_rfl) (fun _ _ _ h => h) (by kernel_rfl) ?_ hS0 ?_
               rotate_left 1
               · intro v hv; obtain ⟨z0, z1, z2, z3, z4, z5, z6⟩ := hv; go_simp; first | done | with_reducible rfl
               try simp only [Act.put, List.setIfInBounds_toArray, List.set_cons_zero, List.set_cons_succ]
               refine Ord.Till.take' 4 (some 77) (oi := _) (x := ?_) rfl rfl (by kernel_rfl) (by kernel_rfl) (by kernel_rfl) (by kernel_rfl) (fun _ _ _ h => h) (by kernel_rfl) ?_ hS0 ?_
               rotate_left 1
               · intro v hv; obtain ⟨z0, z1, z2, z3, z4, z5, z6⟩ := hv; go_simp; first | done | with_reducible rfl
               try simp only [Act.put, List.setIfInBounds_toArray, List.set_cons_zero, List.set_cons_succ]
               refine Ord.Till.take' 5 (some 78) (oi := _) (x := ?_) rfl rfl (by kernel_rfl) (by kernel_rfl) (by kernel_rfl) (by kernel_rfl) (fun _ _ _ h => h) (by kernel_rfl) ?_ hS0 ?_
               rotate_left 1
               · intro v hv; obtain ⟨z0, z1, z2, z3, z4, z5, z6⟩ := hv; go_simp; first | done | with_reducible rfl
               try simp only [Act.put, List.setIfInBounds_toArray, List.set_cons_zero, List.set_cons_succ]
               refine Ord.Till.take' 6 (some 79) (oi := _) (x := ?_) rfl rfl (by kernel_rfl) (by kernel_rfl) (by kernel_rfl) (by kernel_rfl) (fun _ _ _ h => h) (by kernel_rfl) ?_ hS0 ?_
               rotate_left 1
               · intro v hv; obtain ⟨z0, z1, z2, z3, z4, z5, z6⟩ := hv; go_simp; first | done | with_reducible rfl
               try simp only [Act.put, List.setIfInBounds_toArray, List.set_cons_zero, List.set_cons_succ]
               refine Ord.Till.take' 7 (some 80) (oi := _) (x := ?_) rfl rfl (by kernel_rfl) (by kernel_rfl) (by kernel_rfl) (by kernel_rfl) (fun _ _ _ h => h) (by kernel_rfl) ?_ hS0 ?_
               rotate_left 1
               · intro v hv; obtain ⟨z0, z1, z2, z3, z4, z5, z6⟩ := hv; go_simp; first | done | with_reducible rfl
               try simp only [Act.put, List.setIfInBounds_toArray, List.set_cons_zero, List.set_cons_succ]
               refine Ord.Till.take' 8 (some 81) (oi := _) (x := ?_) rfl rfl (by kernel_rfl) (by kernel_rfl) (by kernel_rfl) (by kernel_rfl) (fun _ _ _ h => h) (by kernel_rfl) ?_ hS0 ?_
               rotate_left 1
               · intro v hv; obtain ⟨z0, z1, z2, z3, z4, z5, z6⟩ := hv; go_simp; first | done | with_reducible rfl
               try simp only [Act.put, List.setIfInBounds_toArray, List.set_cons_zero, List.set_cons_succ]
               refine Ord.Till.take' 9 (some 82) (oi := _) (x := ?_) rfl rfl (by kernel_rfl) (by kernel_rfl) (by kernel_rfl) (by kernel_rfl) (fun _ _ _ h => h) (by kernel_rfl) ?_ hS0 ?_
               rotate_left 1
               · intro v hv; obtain ⟨z0, z1, z2, z3, z4, z5, z6⟩ := hv; go_simp; first | done | with_reducible rfl
               try simp only [Act.put, List.setIfInBounds_toArray, List.set_cons_zero, List.set_cons_succ]
               refine Ord.Till.take' 10 (some 83) (oi := _) (x := ?_) rfl rfl (by kernel_rfl) (by kernel_rfl) (by kernel_rfl) (by kernel_rfl) (fun _ _ _ h => h) (by kernel_rfl) ?_ hS0 ?_
               rotate_left 1
               · intro v hv; obtain ⟨z0, z1, z2, z3, z4, z5, z6⟩ := hv; go_simp; first | done | with_reducible rfl
               try simp only [Act.put, List.setIfInBounds_toArray, List.set_cons_zero, List.set_cons_succ]
               refine Ord.Till.take' 11 (some 84) (oi := _) (x := ?_) rfl rfl (by kernel_rfl) (by kernel_rfl) (by kernel_rfl) (by kernel_rfl) (fun _ _ _ h => h) (by kernel_rfl) ?_ hS0 ?_
               rotate_left 1
               · intro v hv; obtain ⟨z0, z1, z2, z3, z4, z5, z6⟩ := hv; go_simp; first | done | with_reducible rfl
               try simp only [Act.put, List.setIfInBounds_toArray, List.set_cons_zero, List.set_cons_succ]
               refine Ord.Till.take' 12 (some 85) (oi := _) (x := ?_) rfl rfl (by kernel_rfl) (by kernel_rfl) (by kernel_rfl) (by kernel_rfl) (fun _ _ _ h => h) (by kernel_rfl) ?_ hS0 ?_
               rotate_left 1
               · intro v hv; obtain ⟨z0, z1, z2, z3, z4, z5, z6⟩ := hv; go_simp; first | done | with_reducible rfl
               try simp only [Act.put, List.setIfInBounds_toArray, List.set_cons_zero, List.set_cons_succ]
               refine Ord.Till.take' 13 (some 86) (oi := _) (x := ?_) rfl rfl (by kernel_rfl) (by kernel_rfl) (by kernel_rfl) (by kernel_rfl) (fun _ _ _ h => h) (by kernel_rfl) ?_ hS0 ?_
               rotate_left 1
               · intro v hv; obtain ⟨z0, z1, z2, z3, z4, z5, z6⟩ := hv; go_simp; first | done | with_reducible rfl
               try simp only [Act.put, List.setIfInBounds_toArray, List.set_cons_zero, List.set_cons_succ]
               refine Ord.Till.take' 14 (some 87) (oi := _) (x := ?_) rfl rfl (by kernel_rfl) (by kernel_rfl) (by kernel_rfl) (by kernel_rfl) (fun _ _ _ h => h) (by kernel_rfl) ?_ hS0 ?_
               rotate_left 1
               · intro v hv; obtain ⟨z0, z1, z2, z3, z4, z5, z6⟩ := hv; go_simp; first | done | with_reducible rfl
               try simp only [Act.put, List.setIfInBounds_toArray, List.set_cons_zero, List.set_cons_succ]
               refine Ord.Till.take' 15 (some 88) (oi := _) (x := ?_) rfl rfl (by kernel_rfl) (by kernel_rfl) (by kernel_rfl) (by kernel_rfl) (fun _ _ _ h => h) (by kernel_rfl) ?_ hS0 ?_
               rotate_left 1
               · intro v hv; obtain ⟨z0, z1, z2, z3, z4, z5, z6⟩ := hv; go_simp; first | done | with_reducible rfl
               try simp only [Act.put, List.setIfInBounds_toArray, List.set_cons_zero, List.set_cons_succ]
               refine Ord.Till.take' 16 (some 89) (oi := _) (x := ?_) rfl rfl (by kernel_rfl) (by kernel_rfl) (by kernel_rfl) (by kernel_rfl) (fun _ _ _ h => h) (by kernel_rfl) ?_ hS0 ?_
               rotate_left 1
               · intro v hv; obtain ⟨z0, z1, z2, z3, z4, z5, z6⟩ := hv; go_simp; first | done | with_reducible rfl
               try simp only [Act.put, List.setIfInBounds_toArray, List.set_cons_zero, List.set_cons_succ]
               refine Ord.Till.take' 17 (some 90) (oi := _) (x := ?_) rfl rfl (by kernel_rfl) (by kernel_rfl) (by kernel_rfl) (by kernel_rfl) (fun _ _ _ h => h) (by kernel_rfl) ?_ hS0 ?_
               rotate_left 1
               · intro v hv; obtain ⟨z0, z1, z2, z3, z4, z5, z6⟩ := hv; go_simp; first | done | with_reducible rfl
               try simp only [Act.put, List.setIfInBounds_toArray, List.set_cons_zero, List.set_cons_succ]
               refine Ord.Till.take' 18 (some 91) (oi := _) (x := ?_) rfl rfl (by kernel_rfl) (by kernel_rfl) (by kernel_rfl) (by kernel_rfl) (fun _ _ _ h => h) (by kernel_rfl) ?_ hS0 ?_
               rotate_left 1
               · intro v hv; obtain ⟨z0, z1, z2, z3, z4, z5, z6⟩ := hv; go_simp; first | done | with_reducible rfl
               try simp only [Act.put, List.setIfInBounds_toArray, List.set_cons_zero, List.set_cons_succ]
               refine Ord.Till.take' 19 (some 92) (oi := _) (x := ?_) rfl rfl (by kernel_rfl) (by kernel_rfl) (by kernel_rfl) (by kernel_rfl) (fun _ _ _ h => h) (by kernel_rfl) ?_ hS0 ?_
               rotate_left 1
               · intro v hv; obtain ⟨z0, z1, z2, z3, z4, z5, z6⟩ := hv; go_simp; first | done | with_reducible rfl
               try simp only [Act.put, List.setIfInBounds_toArray, List.set_cons_zero, List.set_cons_succ]
               refine Ord.Till.take' 20 (some 93) (oi := _) (x := ?_) rfl rfl (by kernel_rfl) (by kernel_rfl) (by kernel_rfl) (by kernel_rfl) (fun _ _ _ h => h) (by kernel_rfl) ?_ hS0 ?_
               rotate_left 1
               · intro v hv; obtain ⟨z0, z1, z2, z3, z4, z5, z6⟩ := hv; go_simp; first | done | with_reducible rfl
               try simp only [Act.put, List.setIfInBounds_toArray, List.set_cons_zero, List.set_cons_succ]
               refine Ord.Till.take' 21 (some 94) (oi := _) (x := ?_) rfl rfl (by kernel_rfl) (by kernel_rfl) (by kernel_rfl) (by kernel_rfl) (fun _ _ _ h => h) (by kernel_rfl) ?_ hS0 ?_
               rotate_left 1
               · intro v hv; obtain ⟨z0, z1, z2, z3, z4, z5, z6⟩ := hv; go_simp; first | done | with_reducible rfl
               try simp only [Act.put, List.setIfInBounds_toArray, List.set_cons_zero, List.set_cons_succ]
               refine Ord.Till.take' 22 (some 95) (oi := _) (x := ?_) rfl rfl (by kernel_rfl) (by kernel_rfl) (by kernel_rfl) (by kernel_rfl) (fun _ _ _ h => h) (by kernel_rfl) ?_ hS0 ?_
               rotate_left 1
               · intro v hv; obtain ⟨z0, z1, z2, z3, z4, z5, z6⟩ := hv; go_simp; first | done | with_reducible rfl
               try simp only [Act.put, List.setIfInBounds_toArray, List.set_cons_zero, List.set_cons_succ]
               refine Ord.Till.take' 23 (some 96) (oi := _) (x := ?_) rfl rfl (by kernel_rfl) (by kernel_rfl) (by kernel_rfl) (by kernel_rfl) (fun _ _ _ h => h) (by kernel_rfl) ?_ hS0 ?_
               rotate_left 1
               · intro v hv; obtain ⟨z0, z1, z2, z3, z4, z5, z6⟩ := hv; go_simp; first | done | with_reducible rfl
               try simp only [Act.put, List.setIfInBounds_toArray, List.set_cons_zero, List.set_cons_succ]
               refine Ord.Till.take' 24 (some 97) (oi := _) (x := ?_) rfl rfl (by kernel_rfl) (by kernel_rfl) (by kernel_rfl) (by kernel_rfl) (fun _ _ _ h => h) (by kernel_rfl) ?_ hS0 ?_
               rotate_left 1
               · intro v hv; obtain ⟨z0, z1, z2, z3, z4, z5, z6⟩ := hv; go_simp; first | done | with_reducible rfl
               try simp only [Act.put, List.setIfInBounds_toArray, List.set_cons_zero, List.set_cons_succ]
               refine Ord.Till.take' 25 (some 98) (oi := _) (x := ?_) rfl rfl (by kernel_rfl) (by kernel_rfl) (by kernel_rfl) (by kernel_rfl) (fun _ _ _ h => h) (by kernel_rfl) ?_ hS0 ?_
               rotate_left 1
               · intro v hv; obtain ⟨z0, z1, z2, z3, z4, z5, z6⟩ := hv; go_simp; first | done | with_reducible rfl
               try simp only [Act.put, List.setIfInBounds_toArray, List.set_cons_zero, List.set_cons_succ]
               refine Ord.Till.take' 26 (some 99) (oi := _) (x := ?_) rfl rfl (by kernel_rfl) (by kernel_rfl) (by kernel_rfl) (by kernel_rfl) (fun _ _ _ h => h) (by kernel_rfl) ?_ hS0 ?_
               rotate_left 1
               · intro v hv; obtain ⟨z0, z1, z2, z3, z4, z5, z6⟩ := hv; go_simp; first | done | with_reducible rfl
               try simp only [Act.put, List.setIfInBounds_toArray, List.set_cons_zero, List.set_cons_succ]
               refine Ord.Till.take' 27 (some 100) (oi := _) (x := ?_) rfl rfl (by kernel_rfl) (by kernel_rfl) (by kernel_rfl) (by kernel_rfl) (fun _ _ _ h => h) (by kernel_rfl) ?_ hS0 ?_
               rotate_left 1
               · intro v hv; obtain ⟨z0, z1, z2, z3, z4, z5, z6⟩ := hv; go_simp; first | done | with_reducible rfl
               try simp only [Act.put, List.setIfInBounds_toArray, List.set_cons_zero, List.set_cons_succ]
               refine Ord.Till.take' 28 (some 101) (oi := _) (x := ?_) rfl rfl (by kernel_rfl) (by kernel_rfl) (by kernel_rfl) (by kernel_rfl) (fun _ _ _ h => h) (by kernel_rfl) ?_ hS0 ?_
               rotate_left 1
               · intro v hv; obtain ⟨z0, z1, z2, z3, z4, z5, z6⟩ := hv; go_simp; first | done | with_reducible rfl
               try simp only [Act.put, List.setIfInBounds_toArray, List.set_cons_zero, List.set_cons_succ]
               refine Ord.Till.take' 29 (some 102) (oi := _) (x := ?_) rfl rfl (by kernel_rfl) (by kernel_rfl) (by kernel_rfl) (by kernel_rfl) (fun _ _ _ h => h) (by kernel_rfl) ?_ hS0 ?_
               rotate_left 1
               · intro v hv; obtain ⟨z0, z1, z2, z3, z4, z5, z6⟩ := hv; go_simp; first | done | with_reducible rfl
               try simp only [Act.put, List.setIfInBounds_toArray, List.set_cons_zero, List.set_cons_succ]
               refine Ord.Till.take' 30 (some 103) (oi := _) (x := ?_) rfl rfl (by kernel_rfl) (by kernel_rfl) (by kernel_rfl) (by kernel_rfl) (fun _ _ _ h => h) (by kernel_rfl) ?_ hS0 ?_
               rotate_left 1
               · intro v hv; obtain ⟨z0, z1, z2, z3, z4, z5, z6⟩ := hv; go_simp; first | done | with_reducible rfl
               try simp only [Act.put, List.setIfInBounds_toArray, List.set_cons_zero, List.set_cons_succ]
               refine Ord.Till.step 31 (by kernel_rfl) rfl (fun C hC => ?_)
               go_simp
               go_at_call 42
               refine (rpart_any fk x1 x2 x3 x4 0 K x5 x6 x7 x8 w3'.drew (hxd3.drewN 1) (show K ≤ w3'.heap.size by omega) (by omega) (by omega) q3 q4 q5 q6).mono ?_
               rw [HL.out]
               rintro e w4' ⟨v4, rfl, o4, hb4⟩
               have hb4' : Below w3'.heap.size w3' w4' := (Below.refl _ _).drew.trans hb4
               obtain ⟨A4, c4, rfl, r4', _⟩ := o4.reads
               have hO4 := hO3.below hb4'
               have hB4 := hB3.below hb4'
               have hF4 := hF3.below hb4'
               have hb04 := hb03.trans (hb4'.mono hs3)
               have hs4 := hb4'.size
               have hS4 : (fun W' => W'.cell? ⟨b, o + k * 6, none⟩ = some (.string x0) ∧ W'.cell? ⟨b, o + k * 6 + 1, none⟩ = some (.int .i64 x1) ∧ W'.cell? ⟨b, o + k * 6 + 2, none⟩ = some (.int .i64 x2) ∧ W'.cell? ⟨b, o + k * 6 + 3, none⟩ = some (.int .i64 x3) ∧ W'.cell? ⟨b, o + k * 6 + 4, none⟩ = some (.int .i64 x4) ∧ W'.cell? ⟨b, o + k * 6 + 5, none⟩ = some (.slice x5 x6 x7) ∧ W'.cell? ⟨b', o' + k, none⟩ = some (.string fk)) w4' := ⟨(cell_eq (hb4'.block b (by omega))).trans r0, (cell_eq (hb4'.block b (by omega))).trans r1, (cell_eq (hb4'.block b (by omega))).trans r2, (cell_eq (hb4'.block b (by omega))).trans r3, (cell_eq (hb4'.block b (by omega))).trans r4, (cell_eq (hb4'.block b (by omega))).trans r5, (cell_eq (hb4'.block b' hb')).trans hfc⟩
               go_wp2_with fail
               refine hC.out _ _ (fun _ => hS4) ?_
               clear hC C hS0 hO3 hB3 hF3 hb03 hb4 o4
               try simp only [List.getElem_toArray, List.getElem_cons_zero, List.getElem_cons_succ, Act.put, List.setIfInBounds_toArray, List.set_cons_zero, List.set_cons_succ]
               obtain ⟨_, _, eB, rB4, _⟩ := hB4.reads
               injection eB with eB1 _ eB3
               subst eB1 eB3
               refine Ord.Till.step 32 (by kernel_rfl) rfl (fun C hC => ?_)
               go_simp
               go_at_call 41
               refine (Byt.add_any w4'.heap.size w4'.heap.size A2 A4 ok c2 L.length c4 _ L w4' rB4 r4' (Nat.le_refl _) (Nat.le_refl _) (by omega) (by have := hml.out; omega)).mono ?_
               rintro e w5' ⟨v5, rfl, o5, hb5⟩
               obtain ⟨A5, c5, rfl, _⟩ := o5.reads
               replace o5 := o5.more hb04.size
               have hO5 := hO4.below hb5
               have hF5 := hF4.below hb5
               have hb05 := hb04.trans (hb5.mono hb04.size)
               have hS5 : (fun W' => W'.cell? ⟨b, o + k * 6, none⟩ = some (.string x0) ∧ W'.cell? ⟨b, o + k * 6 + 1, none⟩ = some (.int .i64 x1) ∧ W'.cell? ⟨b, o + k * 6 + 2, none⟩ = some (.int .i64 x2) ∧ W'.cell? ⟨b, o + k * 6 + 3, none⟩ = some (.int .i64 x3) ∧ W'.cell? ⟨b, o + k * 6 + 4, none⟩ = some (.int .i64 x4) ∧ W'.cell? ⟨b, o + k * 6 + 5, none⟩ = some (.slice x5 x6 x7) ∧ W'.cell? ⟨b', o' + k, none⟩ = some (.string fk)) w5' := by
                 obtain ⟨s0, s1, s2, s3, s4, s5, s6⟩ := hS4
                 exact ⟨(cell_eq (hb5.block b (by omega))).trans s0, (cell_eq (hb5.block b (by omega))).trans s1, (cell_eq (hb5.block b (by omega))).trans s2, (cell_eq (hb5.block b (by omega))).trans s3, (cell_eq (hb5.block b (by omega))).trans s4, (cell_eq (hb5.block b (by omega))).trans s5, (cell_eq (hb5.block b' (by omega))).trans s6⟩
               go_wp2_with fail
               refine hC.out _ _ (fun _ => hS5) ?_
               clear hC C hS4 hO4 hB4 hF4 hb04 hb5 rB4 r4'
               try simp only [List.getElem_toArray, List.getElem_cons_zero, List.getElem_cons_succ, Act.put, List.setIfInBounds_toArray, List.set_cons_zero, List.set_cons_succ]
               refine Ord.Till.step 33 (by kernel_rfl) rfl (fun C hC => ?_)
               go_simp
               refine hC.out _ _ (fun _ => hS5) ?_
               clear hC C
               try simp only [List.getElem_toArray, List.getElem_cons_zero, List.getElem_cons_succ, Act.put, List.setIfInBounds_toArray, List.set_cons_zero, List.set_cons_succ]
               refine Ord.Till.done (by kernel_rfl) ?_ _
               clear hS5 r0 r1 r2 r3 r4 r5 hfc hb'
               rw [← HN.out, ← HS.out] at o5
               rw [← HN.out]
               go_wp2_with fail
               go_roundw
               all_goals first
                 | exact ⟨k + 1, A3, c3, A5, c5, by go_num, rfl, by rw [HON.out], by omega, hO5, by rw [HON.out]; exact o5, hF5, hb05⟩
                 | (simp [intOf]; omega)
             · obtain rfl : k = n := by omega
               have hTk : (bodyP xs).take k = bodyP xs := List.take_of_length_le (by rw [bodyP_length Hfit.out]; have := Hl.out; omega)
               have hfo := HFl.out k (by have := Hl.out; omega)
               rw [hTk] at hB hfo
               have HR := hid (RWrites.fin (hm := true) HF0.out HPre.out HBase.out Hl.out hfo hO hB hb)
               clear hfo hO hB hb hTk
               generalize offAt pre.length xs k = ok at *
               go_wp2_with fail
               go_ret3
               exact HR.out
         · have hti : (0 : Int) < (tn : Int) := by omega
           obtain ⟨_, _, eT, rT, _⟩ := oT.reads
           injection eT with eT1 _ eT3
           subst eT1 eT3
           go_wp2_with fail
           refine (rpart_any ⟨#[47, 47]⟩ 0 0 0 0 0 w6.heap.size _ tn ct (bo (nms xs)) w6 rT (Nat.le_refl _) (by omega) (by show (2 : Nat) ≤ 1000; decide) (by decide) (by decide) (by decide) (by decide)).mono ?_
           rintro e w7 ⟨v7, rfl, o7, hb7⟩
           obtain ⟨A7, c7, rfl, r7, _⟩ := o7.reads
           have oB7 := oB.below hb7
           obtain ⟨_, _, eB, rB7, _⟩ := oB7.reads
           injection eB with eB1 _ eB3
           subst eB1 eB3
           go_wp2_with fail
           have hpl7 := (ptl_len (x := tpt none tn 0 (bo (nms xs))) (herr_tab (by omega)) HTn.out).2
           have e7 : mkp ⟨#[47, 47]⟩ (num 0 0 0 0 (tn : Int)) (bo (nms xs)) = ptl (tpt none tn 0 (bo (nms xs))) := rfl
           rw [e7] at o7 r7 ⊢
           have hpl8 : (ptl (tpt none tn 0 (bo (nms xs)))).length ≤ 7000 := by rw [hpl7]; show 60 + tn + tn % 2 ≤ 7000; omega
           refine (Byt.add_any w7.heap.size w7.heap.size _ A7 bs.length _ (ptl (tpt none tn 0 (bo (nms xs)))).length c7 bs _ w7 rB7 r7 (Nat.le_refl _) (Nat.le_refl _) (by omega) (by omega)).mono ?_
           rintro e w8 ⟨v8, rfl, oB8, hb8⟩
           obtain ⟨A8, c8, rfl, _⟩ := oB8.reads
           have hb07 := hbq.trans (hb7.mono hbq.size)
           have oF8 := (oF.below hb7).below hb8
           replace oB8 := oB8.more hb07.size
           have hb08 := hb07.trans (hb8.mono hb07.size)
           clear oB oB7 rB7 r7 o7 hb7 hb8 hb07 oF hbq oT rT hpl7 hpl8 e7
           have oB := oB8
           have oF := oF8
           have hbq := hb08
           clear oB8 oF8 hb08
           obtain ⟨pre, hpre⟩ : ∃ pre, Arp.magic ++ (flat (mapP true none md.length 0 md) ++ flat (tabP none (bo (nms xs)).length 0 (bo (nms xs)))) = pre := ⟨_, rfl⟩
           have HPre := hid hpre
           have hplen := pre_len true md (bo (nms xs)) (by have := Hmd.out.1; omega) (by have := hlen.out; have := hnl.out; omega)
           rw [hpre] at hplen
           have HBase : Hid (pre.length = base true md.length xs) := hid hplen
           have hpb : pre.length ≤ 29000 := by
             have h1 := hlen.out
             have h2 := hnl.out
             have h3 := Hmd.out.1
             rw [hplen]
             unfold pz
             split <;> split <;> omega
           clear hplen
           have hbs : bs ++ ptl (tpt none tn 0 (bo (nms xs))) = pre := by rw [HBs.out, ← hpre, HTn.out, show tabP none tn 0 (bo (nms xs)) = [tpt none tn 0 (bo (nms xs))] from if_neg ht0, flat_one, List.append_assoc]
           have hbl : bs.length + (ptl (tpt none tn 0 (bo (nms xs)))).length = pre.length := by rw [← hbs, List.length_append]
           rw [hbs, hbl] at oB
           rw [hbl]
           clear hpre hbs hbl
           go_wp2_with fail
           have hKo : pre.length ≤ 29000 := hpb
           have HOf := hid (fun k (hk : k ≤ n) => offAt_le (o := pre.length) hok k (by have := Hl.out; omega))
           have HFl := hid (flat_offAt Hfit.out (by have := Hl.out; omega) Hxl.out pre.length)
           have hst : Byt.Own w8 w.heap.size (.slice A8 (offAt pre.length xs 0) c8) (offAt pre.length xs 0) (pre ++ flat ((bodyP xs).take 0)) := by
             rw [show offAt pre.length xs 0 = pre.length by simp [offAt], List.take_zero, flat_nil, List.append_nil]
             exact oB
           have hlb : Hid (pre.length = offAt pre.length xs 0) := hid (by simp [offAt])
           clear oB hpb
           go_loopw [18, 17, 16] (fun i f v W => ∃ (k : Nat) (A1 : Option Addr) (c1 : Nat) (A2 : Option Addr) (c2 : Nat), i = .int .i64 (k : Int) ∧ f = .slice A1 k c1 ∧ v = .slice A2 (offAt pre.length xs k) c2 ∧ k ≤ n ∧ Cel.Own 3 1 W w.heap.size (.slice A1 k c1) k (ints ((List.range k).map (offAt pre.length xs))) ∧ Byt.Own W w.heap.size (.slice A2 (offAt pre.length xs k) c2) (offAt pre.length xs k) (pre ++ flat ((bodyP xs).take k)) ∧ Sls.Own W w.heap.size (.slice Af n cf) n (fo (nms xs)) ∧ Below w.heap.size w W) (fun i _ _ _ => n - (intOf i).toNat)
           case atStart => exact ⟨0, none, 0, A8, c8, rfl, rfl, by rw [← hlb.out], by omega, Cel.Own.nil _ _ _ _, hst, oF, hbq⟩
           case round =>
             obtain ⟨k, A1, c1, A2, c2, rfl, rfl, rfl, hk, hO, hB, hF, hb⟩ := hrel
             by_cases hlt : k < n
             · have hkl : k < xs.length := by have := Hl.out; omega
               have hki : (k : Int) < (n : Int) := by omega
               obtain ⟨⟨b, o, rfl, hbK, hcell⟩, hxd, _⟩ := (h.below (hb.mono hK)).2 k hkl
               have HBa := hid (bodyP_at Hfit.out hkl)
               have HBl := hid (bodyP_length Hfit.out)
               obtain ⟨fk, hfk⟩ : ∃ fk, fld ((nms xs).take k) xs[k].name = fk := ⟨_, rfl⟩
               have HFk : Hid ((fo (nms xs))[k]? = some fk) := hid (by rw [← hfk]; exact fo_at Hfit.out hkl)
               have hxk := hok xs[k] (List.getElem_mem hkl)
               have hnf : fk.size ≤ 16 := by
                 obtain ⟨k', hk', e, _, hs⟩ := body_mem Hfit.out (by have := Hl.out; omega) (List.getElem_mem (h := show k < (bodyP xs).length by rw [HBl.out]; exact hkl))
                 rw [HBa.out, hfk] at hs
                 exact hs
               have HT : Hid (ints ((List.range (k + 1)).map (offAt pre.length xs)) = ints ((List.range k).map (offAt pre.length xs)) ++ [.int .i64 (offAt pre.length xs k : Int)]) := hid (by rw [List.range_succ]; simp [ints])
               have HS : Hid (pre ++ flat ((bodyP xs).take (k + 1)) = (pre ++ flat ((bodyP xs).take k)) ++ mkp fk (num xs[k].time xs[k].uid xs[k].gid xs[k].mode (xs[k].len : Int)) xs[k].data) := hid (by
                 rw [flat_succ (by rw [HBl.out]; exact hkl), HBa.out, hfk, ← List.append_assoc]
                 rfl)
               have HN : Hid (offAt pre.length xs (k + 1) = offAt pre.length xs k + (mkp fk (num xs[k].time xs[k].uid xs[k].gid xs[k].mode (xs[k].len : Int)) xs[k].data).length) := hid (by
                 have q := (ptl_len (herr_body Hfit.out (by have := Hl.out; omega) hkl) (by exact Hxl.out xs[k] (List.getElem_mem hkl))).2
                 rw [hfk] at q
                 rw [offAt_succ hkl]
                 exact congrArg _ q.symm)
               have hof := HOf.out k hk
               have hml := hid (HOf.out (k + 1) (by omega))
               clear hfk HBa HBl
               generalize xs[k] = x at *
               obtain ⟨x0, x1, x2, x3, x4, x5, x6, x7, x8⟩ := x
               obtain ⟨p0, p1, p2, p3, p4, p5⟩ := hcell
               obtain ⟨_, q2, q3, q4, q5, q6⟩ := hxk
               simp only at *
               generalize hL : mkp fk (num x1 x2 x3 x4 (x6 : Int)) x8 = L at *
               have HL := hid hL
               rw [HN.out] at hml
               clear hL
               obtain ⟨ok, hok2⟩ : ∃ ok, offAt pre.length xs k = ok := ⟨_, rfl⟩
               obtain ⟨on, hon⟩ : ∃ on, offAt pre.length xs (k + 1) = on := ⟨_, rfl⟩
               have HON := hid hon
               rw [hok2] at hB hof hml HN HT ⊢
               rw [hon] at HN
               clear hok2 hon
               go_upto_region 20 with (at_builtin; go_must (refine Cel.wpList_push kI wr w.heap.size (.slice A1 k c1) k _ hO hb.size 1 1 #[.int .i64 (ok : Int)] (0, 0) rfl (by simp [Value.oneCell']) (by omega) (by omega) rfl (.tmp 68) (.tmp 71) rfl rfl rfl ?_); intro v3 w3' hO3 hb3 hot3 _; obtain ⟨A3, c3, rfl, _⟩ := hO3.reads)
               rw [show ints ((List.range k).map (offAt pre.length xs)) ++ #[Value.int .i64 (ok : Int)].toList = ints ((List.range (k + 1)).map (offAt pre.length xs)) by rw [HT.out]] at hO3
               have hF3 := sown_oth hF hot3 (by decide)
               have hB3 := bown_oth hB hot3 (by decide)
               have hb03 := hb.trans hb3
               have hbK3 : b < w.heap.size := by omega
               have r0 := (cell_eq (o := o + k * 6) (hb3.block b hbK3)).trans p0
               have r1 := (cell_eq (o := o + k * 6 + 1) (hb3.block b hbK3)).trans p1
               have r2 := (cell_eq (o := o + k * 6 + 2) (hb3.block b hbK3)).trans p2
               have r3 := (cell_eq (o := o + k * 6 + 3) (hb3.block b hbK3)).trans p3
               have r4 := (cell_eq (o := o + k * 6 + 4) (hb3.block b hbK3)).trans p4
               have r5 := (cell_eq (o := o + k * 6 + 5) (hb3.block b hbK3)).trans p5
               have hxd3 := hxd.below (hb3.mono hK)
               obtain ⟨b', o', ef, hb', hfc, hcf⟩ := fo_get hF3 hlt HFk.out
               subst ef
               have hs3 := hb03.size
               clear hO hB hF hot3 hb3 p0 p1 p2 p3 p4 p5 hb hxd
               refine Ord.Till.begin (fun W' => W'.cell? ⟨b, o + k * 6, none⟩ = some (.string x0) ∧ W'.cell? ⟨b, o + k * 6 + 1, none⟩ = some (.int .i64 x1) ∧ W'.cell? ⟨b, o + k * 6 + 2, none⟩ = some (.int .i64 x2) ∧ W'.cell? ⟨b, o + k * 6 + 3, none⟩ = some (.int .i64 x3) ∧ W'.cell? ⟨b, o + k * 6 + 4, none⟩ = some (.int .i64 x4) ∧ W'.cell? ⟨b, o + k * 6 + 5, none⟩ = some (.slice x5 x6 x7) ∧ W'.cell? ⟨b', o' + k, none⟩ = some (.string fk)) 60 (by kernel_rfl) ?_
               have hS0 : (fun W' => W'.cell? ⟨b, o + k * 6, none⟩ = some (.string x0) ∧ W'.cell? ⟨b, o + k * 6 + 1, none⟩ = some (.int .i64 x1) ∧ W'.cell? ⟨b, o + k * 6 + 2, none⟩ = some (.int .i64 x2) ∧ W'.cell? ⟨b, o + k * 6 + 3, none⟩ = some (.int .i64 x3) ∧ W'.cell? ⟨b, o + k * 6 + 4, none⟩ = some (.int .i64 x4) ∧ W'.cell? ⟨b, o + k * 6 + 5, none⟩ = some (.slice x5 x6 x7) ∧ W'.cell? ⟨b', o' + k, none⟩ = some (.string fk)) w3'.drew := ⟨r0, r1, r2, r3, r4, r5, hfc⟩
               refine Ord.Till.take' 0 (some 73) (oi := _) (x := ?_) rfl rfl (by kernel_rfl) (by kernel_rfl) (by kernel_rfl) (by kernel_rfl) (fun _ _ _ h => h) (by kernel_rfl) ?_ hS0 ?_
               rotate_left 1
               · intro v hv; obtain ⟨z0, z1, z2, z3, z4, z5, z6⟩ := hv; go_simp; first | done | with_reducible rfl
               try simp only [Act.put, List.setIfInBounds_toArray, List.set_cons_zero, List.set_cons_succ]
               refine Ord.Till.take' 1 (some 74) (oi := _) (x := ?_) rfl rfl (by kernel_rfl) (by kernel_rfl) (by kernel_rfl) (by kernel_rfl) (fun _ _ _ h => h) (by kernel_rfl) ?_ hS0 ?_
               rotate_left 1
               · intro v hv; obtain ⟨z0, z1, z2, z3, z4, z5, z6⟩ := hv; go_simp; first | done | with_reducible rfl
               try simp only [Act.put, List.setIfInBounds_toArray, List.set_cons_zero, List.set_cons_succ]
               refine Ord.Till.take' 2 (some 75) (oi := _) (x := ?_) rfl rfl (by kernel_rfl) (by kernel_rfl) (by kernel_rfl) (by kernel_rfl) (fun _ _ _ h => h) (by kernel_rfl) ?_ hS0 ?_
               rotate_left 1
               · intro v hv; obtain ⟨z0, z1, z2, z3, z4, z5, z6⟩ := hv; go_simp; first | done | with_reducible rfl
               try simp only [Act.put, List.setIfInBounds_toArray, List.set_cons_zero, List.set_cons_succ]
               refine Ord.Till.take' 3 (some 76) (oi := _) (x := ?_) rfl rfl (by kernel_rfl) (by kernel_rfl) (by kernel_rfl) (by kernel_rfl) (fun _ _ _ h => h) (by kernel_rfl) ?_ hS0 ?_
               rotate_left 1
               · intro v hv; obtain ⟨z0, z1, z2, z3, z4, z5, z6⟩ := hv; go_simp; first | done | with_reducible rfl
               try simp only [Act.put, List.setIfInBounds_toArray, List.set_cons_zero, List.set_cons_succ]
               refine Ord.Till.take' 4 (some 77) (oi := _) (x := ?_) rfl rfl (by kernel_rfl) (by kernel_rfl) (by kernel_rfl) (by kernel_rfl) (fun _ _ _ h => h) (by kernel_rfl) ?_ hS0 ?_
               rotate_left 1
               · intro v hv; obtain ⟨z0, z1, z2, z3, z4, z5, z6⟩ := hv; go_simp; first | done | with_reducible rfl
               try simp only [Act.put, List.setIfInBounds_toArray, List.set_cons_zero, List.set_cons_succ]
               refine Ord.Till.take' 5 (some 78) (oi := _) (x := ?_) rfl rfl (by kernel_rfl) (by kernel_rfl) (by kernel_rfl) (by kernel_rfl) (fun _ _ _ h => h) (by kernel_rfl) ?_ hS0 ?_
               rotate_left 1
               · intro v hv; obtain ⟨z0, z1, z2, z3, z4, z5, z6⟩ := hv; go_simp; first | done | with_reducible rfl
               try simp only [Act.put, List.setIfInBounds_toArray, List.set_cons_zero, List.set_cons_succ]
               refine Ord.Till.take' 6 (some 79) (oi := _) (x := ?_) rfl rfl (by kernel_rfl) (by kernel_rfl) (by kernel_rfl) (by kernel_rfl) (fun _ _ _ h => h) (by kernel_rfl) ?_ hS0 ?_
               rotate_left 1
               · intro v hv; obtain ⟨z0, z1, z2, z3, z4, z5, z6⟩ := hv; go_simp; first | done | with_reducible rfl
               try simp only [Act.put, List.setIfInBounds_toArray, List.set_cons_zero, List.set_cons_succ]
               refine Ord.Till.take' 7 (some 80) (oi := _) (x := ?_) rfl rfl (by kernel_rfl) (by kernel_rfl) (by kernel_rfl) (by kernel_rfl) (fun _ _ _ h => h) (by kernel_rfl) ?_ hS0 ?_
               rotate_left 1
               · intro v hv; obtain ⟨z0, z1, z2, z3, z4, z5, z6⟩ := hv; go_simp; first | done | with_reducible rfl
               try simp only [Act.put, List.setIfInBounds_toArray, List.set_cons_zero, List.set_cons_succ]
               refine Ord.Till.take' 8 (some 81) (oi := _) (x := ?_) rfl rfl (by kernel_rfl) (by kernel_rfl) (by kernel_rfl) (by kernel_rfl) (fun _ _ _ h => h) (by kernel_rfl) ?_ hS0 ?_
               rotate_left 1
               · intro v hv; obtain ⟨z0, z1, z2, z3, z4, z5, z6⟩ := hv; go_simp; first | done | with_reducible rfl
               try simp only [Act.put, List.setIfInBounds_toArray, List.set_cons_zero, List.set_cons_succ]
               refine Ord.Till.take' 9 (some 82) (oi := _) (x := ?_) rfl rfl (by kernel_rfl) (by kernel_rfl) (by kernel_rfl) (by kernel_rfl) (fun _ _ _ h => h) (by kernel_rfl) ?_ hS0 ?_
               rotate_left 1
               · intro v hv; obtain ⟨z0, z1, z2, z3, z4, z5, z6⟩ := hv; go_simp; first | done | with_reducible rfl
               try simp only [Act.put, List.setIfInBounds_toArray, List.set_cons_zero, List.set_cons_succ]
               refine Ord.Till.take' 10 (some 83) (oi := _) (x := ?_) rfl rfl (by kernel_rfl) (by kernel_rfl) (by kernel_rfl) (by kernel_rfl) (fun _ _ _ h => h) (by kernel_rfl) ?_ hS0 ?_
               rotate_left 1
               · intro v hv; obtain ⟨z0, z1, z2, z3, z4, z5, z6⟩ := hv; go_simp; first | done | with_reducible rfl
               try simp only [Act.put, List.setIfInBounds_toArray, List.set_cons_zero, List.set_cons_succ]
               refine Ord.Till.take' 11 (some 84) (oi := _) (x := ?_) rfl rfl (by kernel_rfl) (by kernel_rfl) (by kernel_rfl) (by kernel_rfl) (fun _ _ _ h => h) (by kernel_rfl) ?_ hS0 ?_
               rotate_left 1
               · intro v hv; obtain ⟨z0, z1, z2, z3, z4, z5, z6⟩ := hv; go_simp; first | done | with_reducible rfl
               try simp only [Act.put, List.setIfInBounds_toArray, List.set_cons_zero, List.set_cons_succ]
               refine Ord.Till.take' 12 (some 85) (oi := _) (x := ?_) rfl rfl (by kernel_rfl) (by kernel_rfl) (by kernel_rfl) (by kernel_rfl) (fun _ _ _ h => h) (by kernel_rfl) ?_ hS0 ?_
               rotate_left 1
               · intro v hv; obtain ⟨z0, z1, z2, z3, z4, z5, z6⟩ := hv; go_simp; first | done | with_reducible rfl
               try simp only [Act.put, List.setIfInBounds_toArray, List.set_cons_zero, List.set_cons_succ]
               refine Ord.Till.take' 13 (some 86) (oi := _) (x := ?_) rfl rfl (by kernel_rfl) (by kernel_rfl) (by kernel_rfl) (by kernel_rfl) (fun _ _ _ h => h) (by kernel_rfl) ?_ hS0 ?_
               rotate_left 1
               · intro v hv; obtain ⟨z0, z1, z2, z3, z4, z5, z6⟩ := hv; go_simp; first | done | with_reducible rfl
               try simp only [Act.put, List.setIfInBounds_toArray, List.set_cons_zero, List.set_cons_succ]
               refine Ord.Till.take' 14 (some 87) (oi := _) (x := ?_) rfl rfl (by kernel_rfl) (by kernel_rfl) (by kernel_rfl) (by kernel_rfl) (fun _ _ _ h => h) (by kernel_rfl) ?_ hS0 ?_
               rotate_left 1
               · intro v hv; obtain ⟨z0, z1, z2, z3, z4, z5, z6⟩ := hv; go_simp; first | done | with_reducible rfl
               try simp only [Act.put, List.setIfInBounds_toArray, List.set_cons_zero, List.set_cons_succ]
               refine Ord.Till.take' 15 (some 88) (oi := _) (x := ?_) rfl rfl (by kernel_rfl) (by kernel_rfl) (by kernel_rfl) (by kernel_rfl) (fun _ _ _ h => h) (by kernel_rfl) ?_ hS0 ?_
               rotate_left 1
               · intro v hv; obtain ⟨z0, z1, z2, z3, z4, z5, z6⟩ := hv; go_simp; first | done | with_reducible rfl
               try simp only [Act.put, List.setIfInBounds_toArray, List.set_cons_zero, List.set_cons_succ]
               refine Ord.Till.take' 16 (some 89) (oi := _) (x := ?_) rfl rfl (by kernel_rfl) (by kernel_rfl) (by kernel_rfl) (by kernel_rfl) (fun _ _ _ h => h) (by kernel_rfl) ?_ hS0 ?_
               rotate_left 1
               · intro v hv; obtain ⟨z0, z1, z2, z3, z4, z5, z6⟩ := hv; go_simp; first | done | with_reducible rfl
               try simp only [Act.put, List.setIfInBounds_toArray, List.set_cons_zero, List.set_cons_succ]
               refine Ord.Till.take' 17 (some 90) (oi := _) (x := ?_) rfl rfl (by kernel_rfl) (by kernel_rfl) (by kernel_rfl) (by kernel_rfl) (fun _ _ _ h => h) (by kernel_rfl) ?_ hS0 ?_
               rotate_left 1
               · intro v hv; obtain ⟨z0, z1, z2, z3, z4, z5, z6⟩ := hv; go_simp; first | done | with_reducible rfl
               try simp only [Act.put, List.setIfInBounds_toArray, List.set_cons_zero, List.set_cons_succ]
               refine Ord.Till.take' 18 (some 91) (oi := _) (x := ?_) rfl rfl (by kernel_rfl) (by kernel_rfl) (by kernel_rfl) (by kernel_rfl) (fun _ _ _ h => h) (by kernel_rfl) ?_ hS0 ?_
               rotate_left 1
               · intro v hv; obtain ⟨z0, z1, z2, z3, z4, z5, z6⟩ := hv; go_simp; first | done | with_reducible rfl
               try simp only [Act.put, List.setIfInBounds_toArray, List.set_cons_zero, List.set_cons_succ]
               refine Ord.Till.take' 19 (some 92) (oi := _) (x := ?_) rfl rfl (by kernel_rfl) (by kernel_rfl) (by kernel_rfl) (by kernel_rfl) (fun _ _ _ h => h) (by kernel_rfl) ?_ hS0 ?_
               rotate_left 1
               · intro v hv; obtain ⟨z0, z1, z2, z3, z4, z5, z6⟩ := hv; go_simp; first | done | with_reducible rfl
               try simp only [Act.put, List.setIfInBounds_toArray, List.set_cons_zero, List.set_cons_succ]
               refine Ord.Till.take' 20 (some 93) (oi := _) (x := ?_) rfl rfl (by kernel_rfl) (by kernel_rfl) (by kernel_rfl) (by kernel_rfl) (fun _ _ _ h => h) (by kernel_rfl) ?_ hS0 ?_
               rotate_left 1
               · intro v hv; obtain ⟨z0, z1, z2, z3, z4, z5, z6⟩ := hv; go_simp; first | done | with_reducible rfl
               try simp only [Act.put, List.setIfInBounds_toArray, List.set_cons_zero, List.set_cons_succ]
               refine Ord.Till.take' 21 (some 94) (oi := _) (x := ?_) rfl rfl (by kernel_rfl) (by kernel_rfl) (by kernel_rfl) (by kernel_rfl) (fun _ _ _ h => h) (by kernel_rfl) ?_ hS0 ?_
               rotate_left 1
               · intro v hv; obtain ⟨z0, z1, z2, z3, z4, z5, z6⟩ := hv; go_simp; first | done | with_reducible rfl
               try simp only [Act.put, List.setIfInBounds_toArray, List.set_cons_zero, List.set_cons_succ]
               refine Ord.Till.take' 22 (some 95) (oi := _) (x := ?_) rfl rfl (by kernel_rfl) (by kernel_rfl) (by kernel_rfl) (by kernel_rfl) (fun _ _ _ h => h) (by kernel_rfl) ?_ hS0 ?_
               rotate_left 1
               · intro v hv; obtain ⟨z0, z1, z2, z3, z4, z5, z6⟩ := hv; go_simp; first | done | with_reducible rfl
               try simp only [Act.put, List.setIfInBounds_toArray, List.set_cons_zero, List.set_cons_succ]
               refine Ord.Till.take' 23 (some 96) (oi := _) (x := ?_) rfl rfl (by kernel_rfl) (by kernel_rfl) (by kernel_rfl) (by kernel_rfl) (fun _ _ _ h => h) (by kernel_rfl) ?_ hS0 ?_
               rotate_left 1
               · intro v hv; obtain ⟨z0, z1, z2, z3, z4, z5, z6⟩ := hv; go_simp; first | done | with_reducible rfl
               try simp only [Act.put, List.setIfInBounds_toArray, List.set_cons_zero, List.set_cons_succ]
               refine Ord.Till.take' 24 (some 97) (oi := _) (x := ?_) rfl rfl (by kernel_rfl) (by kernel_rfl) (by kernel_rfl) (by kernel_rfl) (fun _ _ _ h => h) (by kernel_rfl) ?_ hS0 ?_
               rotate_left 1
               · intro v hv; obtain ⟨z0, z1, z2, z3, z4, z5, z6⟩ := hv; go_simp; first | done | with_reducible rfl
               try simp only [Act.put, List.setIfInBounds_toArray, List.set_cons_zero, List.set_cons_succ]
               refine Ord.Till.take' 25 (some 98) (oi := _) (x := ?_) rfl rfl (by kernel_rfl) (by kernel_rfl) (by kernel_rfl) (by kernel_rfl) (fun _ _ _ h => h) (by kernel_rfl) ?_ hS0 ?_
               rotate_left 1
               · intro v hv; obtain ⟨z0, z1, z2, z3, z4, z5, z6⟩ := hv; go_simp; first | done | with_reducible rfl
               try simp only [Act.put, List.setIfInBounds_toArray, List.set_cons_zero, List.set_cons_succ]
               refine Ord.Till.take' 26 (some 99) (oi := _) (x := ?_) rfl rfl (by kernel_rfl) (by kernel_rfl) (by kernel_rfl) (by kernel_rfl) (fun _ _ _ h => h) (by kernel_rfl) ?_ hS0 ?_
               rotate_left 1
               · intro v hv; obtain ⟨z0, z1, z2, z3, z4, z5, z6⟩ := hv; go_simp; first | done | with_reducible rfl
               try simp only [Act.put, List.setIfInBounds_toArray, List.set_cons_zero, List.set_cons_succ]
               refine Ord.Till.take' 27 (some 100) (oi := _) (x := ?_) rfl rfl (by kernel_rfl) (by kernel_rfl) (by kernel_rfl) (by kernel_rfl) (fun _ _ _ h => h) (by kernel_rfl) ?_ hS0 ?_
               rotate_left 1
               · intro v hv; obtain ⟨z0, z1, z2, z3, z4, z5, z6⟩ := hv; go_simp; first | done | with_reducible rfl
               try simp only [Act.put, List.setIfInBounds_toArray, List.set_cons_zero, List.set_cons_succ]
               refine Ord.Till.take' 28 (some 101) (oi := _) (x := ?_) rfl rfl (by kernel_rfl) (by kernel_rfl) (by kernel_rfl) (by kernel_rfl) (fun _ _ _ h => h) (by kernel_rfl) ?_ hS0 ?_
               rotate_left 1
               · intro v hv; obtain ⟨z0, z1, z2, z3, z4, z5, z6⟩ := hv; go_simp; first | done | with_reducible rfl
               try simp only [Act.put, List.setIfInBounds_toArray, List.set_cons_zero, List.set_cons_succ]
               refine Ord.Till.take' 29 (some 102) (oi := _) (x := ?_) rfl rfl (by kernel_rfl) (by kernel_rfl) (by kernel_rfl) (by kernel_rfl) (fun _ _ _ h => h) (by kernel_rfl) ?_ hS0 ?_
               rotate_left 1
               · intro v hv; obtain ⟨z0, z1, z2, z3, z4, z5, z6⟩ := hv; go_simp; first | done | with_reducible rfl
               try simp only [Act.put, List.setIfInBounds_toArray, List.set_cons_zero, List.set_cons_succ]
               refine Ord.Till.take' 30 (some 103) (oi := _) (x := ?_) rfl rfl (by kernel_rfl) (by kernel_rfl) (by kernel_rfl) (by kernel_rfl) (fun _ _ _ h => h) (by kernel_rfl) ?_ hS0 ?_
               rotate_left 1
               · intro v hv; obtain ⟨z0, z1, z2, z3, z4, z5, z6⟩ := hv; go_simp; first | done | with_reducible rfl
               try simp only [Act.put, List.setIfInBounds_toArray, List.set_cons_zero, List.set_cons_succ]
               refine Ord.Till.step 31 (by kernel_rfl) rfl (fun C hC => ?_)
               go_simp
               go_at_call 42
               refine (rpart_any fk x1 x2 x3 x4 0 K x5 x6 x7 x8 w3'.drew (hxd3.drewN 1) (show K ≤ w3'.heap.size by omega) (by omega) (by omega) q3 q4 q5 q6).mono ?_
               rw [HL.out]
               rintro e w4' ⟨v4, rfl, o4, hb4⟩
               have hb4' : Below w3'.heap.size w3' w4' := (Below.refl _ _).drew.trans hb4
               obtain ⟨A4, c4, rfl, r4', _⟩ := o4.reads
               have hO4 := hO3.below hb4'
               have hB4 := hB3.below hb4'
               have hF4 := hF3.below hb4'
               have hb04 := hb03.trans (hb4'.mono hs3)
               have hs4 := hb4'.size
               have hS4 : (fun W' => W'.cell? ⟨b, o + k * 6, none⟩ = some (.string x0) ∧ W'.cell? ⟨b, o + k * 6 + 1, none⟩ = some (.int .i64 x1) ∧ W'.cell? ⟨b, o + k * 6 + 2, none⟩ = some (.int .i64 x2) ∧ W'.cell? ⟨b, o + k * 6 + 3, none⟩ = some (.int .i64 x3) ∧ W'.cell? ⟨b, o + k * 6 + 4, none⟩ = some (.int .i64 x4) ∧ W'.cell? ⟨b, o + k * 6 + 5, none⟩ = some (.slice x5 x6 x7) ∧ W'.cell? ⟨b', o' + k, none⟩ = some (.string fk)) w4' := ⟨(cell_eq (hb4'.block b (by omega))).trans r0, (cell_eq (hb4'.block b (by omega))).trans r1, (cell_eq (hb4'.block b (by omega))).trans r2, (cell_eq (hb4'.block b (by omega))).trans r3, (cell_eq (hb4'.block b (by omega))).trans r4, (cell_eq (hb4'.block b (by omega))).trans r5, (cell_eq (hb4'.block b' hb')).trans hfc⟩
               go_wp2_with fail
               refine hC.out _ _ (fun _ => hS4) ?_
               clear hC C hS0 hO3 hB3 hF3 hb03 hb4 o4
               try simp only [List.getElem_toArray, List.getElem_cons_zero, List.getElem_cons_succ, Act.put, List.setIfInBounds_toArray, List.set_cons_zero, List.set_cons_succ]
               obtain ⟨_, _, eB, rB4, _⟩ := hB4.reads
               injection eB with eB1 _ eB3
               subst eB1 eB3
               refine Ord.Till.step 32 (by kernel_rfl) rfl (fun C hC => ?_)
               go_simp
               go_at_call 41
               refine (Byt.add_any w4'.heap.size w4'.heap.size A2 A4 ok c2 L.length c4 _ L w4' rB4 r4' (Nat.le_refl _) (Nat.le_refl _) (by omega) (by have := hml.out; omega)).mono ?_
               rintro e w5' ⟨v5, rfl, o5, hb5⟩
               obtain ⟨A5, c5, rfl, _⟩ := o5.reads
               replace o5 := o5.more hb04.size
               have hO5 := hO4.below hb5
               have hF5 := hF4.below hb5
               have hb05 := hb04.trans (hb5.mono hb04.size)
               have hS5 : (fun W' => W'.cell? ⟨b, o + k * 6, none⟩ = some (.string x0) ∧ W'.cell? ⟨b, o + k * 6 + 1, none⟩ = some (.int .i64 x1) ∧ W'.cell? ⟨b, o + k * 6 + 2, none⟩ = some (.int .i64 x2) ∧ W'.cell? ⟨b, o + k * 6 + 3, none⟩ = some (.int .i64 x3) ∧ W'.cell? ⟨b, o + k * 6 + 4, none⟩ = some (.int .i64 x4) ∧ W'.cell? ⟨b, o + k * 6 + 5, none⟩ = some (.slice x5 x6 x7) ∧ W'.cell? ⟨b', o' + k, none⟩ = some (.string fk)) w5' := by
                 obtain ⟨s0, s1, s2, s3, s4, s5, s6⟩ := hS4
                 exact ⟨(cell_eq (hb5.block b (by omega))).trans s0, (cell_eq (hb5.block b (by omega))).trans s1, (cell_eq (hb5.block b (by omega))).trans s2, (cell_eq (hb5.block b (by omega))).trans s3, (cell_eq (hb5.block b (by omega))).trans s4, (cell_eq (hb5.block b (by omega))).trans s5, (cell_eq (hb5.block b' (by omega))).trans s6⟩
               go_wp2_with fail
               refine hC.out _ _ (fun _ => hS5) ?_
               clear hC C hS4 hO4 hB4 hF4 hb04 hb5 rB4 r4'
               try simp only [List.getElem_toArray, List.getElem_cons_zero, List.getElem_cons_succ, Act.put, List.setIfInBounds_toArray, List.set_cons_zero, List.set_cons_succ]
               refine Ord.Till.step 33 (by kernel_rfl) rfl (fun C hC => ?_)
               go_simp
               refine hC.out _ _ (fun _ => hS5) ?_
               clear hC C
               try simp only [List.getElem_toArray, List.getElem_cons_zero, List.getElem_cons_succ, Act.put, List.setIfInBounds_toArray, List.set_cons_zero, List.set_cons_succ]
               refine Ord.Till.done (by kernel_rfl) ?_ _
               clear hS5 r0 r1 r2 r3 r4 r5 hfc hb'
               rw [← HN.out, ← HS.out] at o5
               rw [← HN.out]
               go_wp2_with fail
               go_roundw
               all_goals first
                 | exact ⟨k + 1, A3, c3, A5, c5, by go_num, rfl, by rw [HON.out], by omega, hO5, by rw [HON.out]; exact o5, hF5, hb05⟩
                 | (simp [intOf]; omega)
             · obtain rfl : k = n := by omega
               have hTk : (bodyP xs).take k = bodyP xs := List.take_of_length_le (by rw [bodyP_length Hfit.out]; have := Hl.out; omega)
               have hfo := HFl.out k (by have := Hl.out; omega)
               rw [hTk] at hB hfo
               have HR := hid (RWrites.fin (hm := true) HF0.out HPre.out HBase.out Hl.out hfo hO hB hb)
               clear hfo hO hB hb hTk
               generalize offAt pre.length xs k = ok at *
               go_wp2_with fail
               go_ret3
               exact HR.out
 · have HR : Hid (∀ W, Below w.heap.size w W → RWrites hm md xs w (.returned (.tuple #[.slice none 0 0, .slice none 0 0, .int .i64 f2])) W) := hid (fun W hb => by
     have h2 : ¬ (fitL 0 xs).2 = 0 := by rw [hf]; exact hz
     have e1 : wout hm md xs = [] := if_neg h2
     refine ⟨.slice none 0 0, none, 0, 0, by rw [hf], ?_, ?_, hb⟩
     · rw [e1]; exact Byt.Own.nil _ _
     · rw [if_neg h2]; exact Cel.Own.nil _ _ _ _)
   clear hf
   go_wp2_with fail
   go_ret3
   exact HR.out _ hb1
end Go.Proofs.YtjobmkodgodloaaGreatDoor.Arw

namespace Go.Proofs.YtjobmkodgodloaaGreatDoor.Arw
open Go.RowKit Go.Proofs Go.Proofs.YtjobmkodgodloaaGreatDoor.Byt Go.Proofs.YtjobmkodgodloaaGreatDoor.Dec Go.Proofs.YtjobmkodgodloaaGreatDoor.Lnm Go.Proofs.YtjobmkodgodloaaGreatDoor.Hdr Go.Proofs.YtjobmkodgodloaaGreatDoor.Arp
open Go.Proofs.YtjobmkodgodloaaGreatDoor.Sls (Fr blk Oth)

def nA : ByteArray := ⟨#[97, 46, 111]⟩
def nL : ByteArray := ⟨#[97, 45, 118, 101, 114, 121, 45, 108, 111, 110, 103, 45, 110, 97, 109, 101, 46, 111]⟩
def m1 (g : Nat) : Mem := ⟨nA, 0, 0, 0, 0, some ⟨g, 0, none⟩, 1, 1, [120]⟩
def m2 : Mem := ⟨nL, 0, 0, 0, 0, none, 0, 0, []⟩
theorem rdM_row {w : World} {b K : Nat} {xs : List Mem} {cs : Array Value} {m : Nat × Nat} (h : w.heap[b]? = some (.cells cs 64 m)) (hc : cs.toList = mcells xs) (hb : b < K) (hd : ∀ x ∈ xs, Byt.Rd w K x.ptr x.len x.data ∧ x.len ≤ 140737488355328) : RdM w K (some ⟨b, 0, none⟩) xs.length xs := by
 refine ⟨rfl, fun k hk => ⟨⟨b, 0, rfl, hb, ?_⟩, hd _ (List.getElem_mem hk)⟩⟩
 obtain ⟨q0, q1, q2, q3, q4, q5⟩ := mcells_at xs k hk
 rw [← hc] at q0 q1 q2 q3 q4 q5
 have e : ∀ j v, cs.toList[j]? = some v → w.cell? ⟨b, j, none⟩ = some v := fun j v hv => by
   rw [cell_of_row w b j cs _ m h, ← Array.getElem?_toList]
   exact hv
 unfold MCells
 rw [Nat.zero_add]
 exact ⟨e _ _ q0, e _ _ q1, e _ _ q2, e _ _ q3, e _ _ q4, e _ _ q5⟩

end Go.Proofs.YtjobmkodgodloaaGreatDoor.Arw
