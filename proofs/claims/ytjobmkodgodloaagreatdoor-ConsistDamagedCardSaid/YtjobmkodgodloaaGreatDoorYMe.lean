/-
  The reference's Decode: a number read, and what stands before the fields. The reference's Decode: the errors before the fields. The reference's Decode: the fields.
-/
import Derived.Test.YtjobmkodgodloaaGreatDoorYMf
import Derived.Test.YtjobmkodgodloaaGreatDoorYHdk
import Derived.Deep.LoopGhost
namespace Go.Proofs.YtjobmkodgodloaaGreatDoor.Hdr
open Go.RowKit Go.Proofs Go.Proofs.YtjobmkodgodloaaGreatDoor.Byt Go.Proofs.YtjobmkodgodloaaGreatDoor.Str Go.Proofs.YtjobmkodgodloaaGreatDoor.Dec

theorem same_spaces (x : List UInt8) : (x == List.replicate x.length 32) = spaces x := by
 unfold spaces
 rw [Bool.eq_iff_iff, beq_iff_eq, List.all_eq_true]
 constructor
 · intro h b hb
   rw [h] at hb
   have := (List.mem_replicate.1 hb).2
   simp [this]
 · intro h
   exact List.eq_replicate_iff.2 ⟨rfl, fun b hb => by simpa using h b hb⟩

def Num (o : Option Nat) (w : World) (e : Ending) (w' : World) : Prop := e = .returned (.tuple #[.int .i64 ((o.getD 0 : Nat) : Int), .bool o.isSome]) ∧ Below w.heap.size w w'

def spO (x : List UInt8) : Option Nat := if spaces x = true then some 0 else none
theorem rnumber_blank (K : Nat) (A : Option Addr) (n c : Nat) (b : Int) (x : List UInt8) (w : World) (hr : Rd w K A n x) (hK : K ≤ w.heap.size) (hn : n ≤ 1000) :
   Calls Tryz.prog 69 #[.slice A n c, .int .i64 b, .bool true] w (Num (spO x) w) := by
 have Hs := hid fun w' => rspaces_any n w' hn
 have hsp := same_spaces x
 rw [hr.1] at hsp
 have Hf : Hid (∀ w', Below w.heap.size w w' → Num (spO x) w (.returned (.tuple #[.int .i64 0, .bool (x == List.replicate n 32)])) w') := hid fun w' hb => by
   rw [hsp]
   unfold spO
   refine ⟨?_, hb⟩
   cases spaces x <;> rfl
 clear hsp
 go_enter Tryz.func69, Tryz.ntmps69
 go_wp2_with fail
 refine (Hs.out _).mono ?_
 rintro e w1 ⟨v1, rfl, hown1, hb1⟩
 obtain ⟨A1, c1, rfl, r1, _, _⟩ := hown1.reads
 have HS := hid (same_any _ rfl _ _ A A1 n c n c1 x (List.replicate n 32) w1 (hr.below (hb1.mono hK)) r1 (by omega))
 have Hb1 := hid hb1
 clear hown1 r1 hb1 hr
 go_wp2_with fail
 refine HS.out.mono ?_
 rintro e w2 ⟨rfl, m2, rfl⟩
 go_wp2_with fail
 go_ret2
 exact Hf.out _ (Hb1.out.trans (below_drewN _ _))

theorem rnumber_num (K : Nat) (A : Option Addr) (n c : Nat) (b : Nat) (x : List UInt8) (w : World) (hr : Rd w K A n x) (hK : K ≤ w.heap.size) (hb : vb (b : Int) = true) (hn : vw (n : Int) = true) :
   Calls Tryz.prog 69 #[.slice A n c, .int .i64 (b : Int), .bool false] w (Num (parse b x) w) := by
 have Hp := hid (rparse_any K A n c x b w hr hK)
 have Hf : Hid (∀ w', Below w.heap.size w w' → Num (parse b x) w (.returned (.tuple #[.int .i64 (pval x b), .bool (perr x b == 0)])) w') := hid fun w' h2 => by
   refine ⟨?_, h2⟩
   cases hx : parse b x with
   | none =>
     have h0 := perr_3 (l := x) (b := b) ⟨hb, by rw [hr.1]; exact hn⟩ (by rw [Int.toNat_natCast]; exact hx)
     rw [h0.1, h0.2]; rfl
   | some v =>
     have h0 := perr_0 (l := x) (b := b) ⟨hb, by rw [hr.1]; exact hn⟩ (n := v) (by rw [Int.toNat_natCast]; exact hx)
     rw [h0.1, h0.2]; rfl
 clear hr hb hn
 go_enter Tryz.func69, Tryz.ntmps69
 go_wp2_with fail
 refine Hp.out.mono ?_
 rintro e w1 ⟨rfl, hb1⟩
 go_wp2_with fail
 go_ret2
 exact Hf.out _ hb1

theorem rnumber_at (tab : Bool) (k : Nat) (K : Nat) (A : Option Addr) (c : Nat) (x : List UInt8) (w : World) (hr : Rd w K A (wd k) x) (hK : K ≤ w.heap.size) :
   Calls Tryz.prog 69 #[.slice A (wd k) c, .int .i64 (bs k : Int), .bool (mo k && tab)] w (Num (rdF tab k x) w) := by
 have hw := wd_18 k
 cases h : (mo k && tab)
 · have e : rdF tab k x = parse (bs k) x := by unfold rdF; rw [if_neg (by rw [h]; simp)]
   rw [e]
   exact rnumber_num K A (wd k) c (bs k) x w hr hK (bs_vb k) (vw_iff.2 (by omega))
 · have e : rdF tab k x = spO x := by unfold rdF spO; rw [if_pos h]
   rw [e]
   exact rnumber_blank K A (wd k) c (bs k) x w hr hK (by omega)

theorem mark_iff {l : List UInt8} (h : 60 ≤ l.length) : (l.drop 58).take 2 = [96, 10] ↔ (l[58]'(by omega) = 96 ∧ l[59]'(by omega) = 10) := by
 have e : (l.drop 58).take 2 = [l[58]'(by omega), l[59]'(by omega)] := by
   rw [List.drop_eq_getElem_cons (by omega), List.drop_eq_getElem_cons (by omega)]
   rfl
 rw [e]
 simp

theorem trim_exit {l : List UInt8} {j : Nat} (h : l.take 16 = l.take j ++ List.replicate (16 - j) 32) (hs : Lib.hasSuffix (l.take j) [32] = false) : by_ (nm l) = l.take j := by
 rw [by_nm, h]
 exact trim_pad hs _
theorem nm_take {l : List UInt8} {j : Nat} (h : by_ (nm l) = l.take j) : ByteArray.mk (l.take j).toArray = nm l := by
 apply by_inj
 rw [h]
 rfl
theorem trim_start (l : List UInt8) : l.take 16 = l.take 16 ++ List.replicate (16 - 16) 32 := by simp
theorem trim_step {l : List UInt8} {q : Nat} (hl : 60 ≤ l.length) (hq : q < 16) (h : l.take 16 = l.take (q + 1) ++ List.replicate (16 - (q + 1)) 32) (h32 : l[q]'(by omega) = 32) : l.take 16 = l.take q ++ List.replicate (16 - q) 32 := by
 have e : l.take (q + 1) = l.take q ++ [32] := by rw [List.take_succ_eq_append_getElem (by omega), h32]
 rw [h, e, List.append_assoc]
 congr 1
 rw [show 16 - q = (16 - (q + 1)) + 1 by omega, List.replicate_succ]
 rfl
theorem trim_stop {l : List UInt8} {q : Nat} (hl : 60 ≤ l.length) (hq : q < 16) (h32 : l[q]'(by omega) ≠ 32) : Lib.hasSuffix (l.take (q + 1)) [32] = false := by
 rw [List.take_succ_eq_append_getElem (by omega), suffix_32, beq_eq_false_iff_ne]
 exact fun e => h32 e.symm

def okc (l : List UInt8) (k j : Nat) : Bool := if j < k then (rdF (isTab (nm l)) j (part l j)).isSome else false
def okcells (l : List UInt8) (k : Nat) : Array Value := #[.bool (okc l k 0), .bool (okc l k 1), .bool (okc l k 2), .bool (okc l k 3), .bool (okc l k 4)]
theorem okcells_set {l : List UInt8} {k : Nat} (hk : k < 5) : (okcells l k).setIfInBounds k (.bool (rdF (isTab (nm l)) k (part l k)).isSome) = okcells l (k + 1) := by
 have h5 : k = 0 ∨ k = 1 ∨ k = 2 ∨ k = 3 ∨ k = 4 := by omega
 rcases h5 with rfl | rfl | rfl | rfl | rfl <;> simp [okcells, okc]
theorem hcells_put {l : List UInt8} {k : Nat} (hk : k < 5) : (hcells l k).setIfInBounds (k + 1) (.int .i64 (((rdF (isTab (nm l)) k (part l k)).getD 0 : Nat) : Int)) = hcells l (k + 1) := by
 have h5 : k = 0 ∨ k = 1 ∨ k = 2 ∨ k = 3 ∨ k = 4 := by omega
 rcases h5 with rfl | rfl | rfl | rfl | rfl <;> simp [hcells, val]
theorem allRd_of {l : List UInt8} (h : ∀ j, j < 5 → okc l 5 j = true) : ∀ k, k ≤ 5 → allRd l k = true
 | 0, _ => rfl
 | k + 1, hk => by
   have h1 := h k (by omega)
   unfold okc at h1
   rw [if_pos (by omega)] at h1
   simp only [allRd, allRd_of h k (by omega), h1]
   rfl
theorem allRd_not {l : List UInt8} {j : Nat} (hj : j < 5) (h : okc l 5 j = false) : allRd l 5 = false := by
 unfold okc at h
 rw [if_pos hj] at h
 refine allRd_false (k := j) ?_ 5 hj
 cases hx : rdF (isTab (nm l)) j (part l j) with
 | none => rfl
 | some v => rw [hx] at h; cases h
end Go.Proofs.YtjobmkodgodloaaGreatDoor.Hdr

namespace Go.Proofs.YtjobmkodgodloaaGreatDoor.Hdr
open Go.RowKit Go.Proofs Go.Proofs.YtjobmkodgodloaaGreatDoor.Byt Go.Proofs.YtjobmkodgodloaaGreatDoor.Str Go.Proofs.YtjobmkodgodloaaGreatDoor.Dec

def z23 : Obj := .cells #[.string ⟨#[]⟩, .int .i64 0, .int .i64 0, .int .i64 0, .int .i64 0, .int .i64 0] 106
theorem load_six23 (w : World) (B : Nat) (cs : Array Value) (h : w.heap[B]? = some (.cells cs 106 (0, 0))) (hs : cs.size = 6) :
   (loadVar 106 ⟨B, 0, none⟩).run Tryz.prog w = .ok (.agg cs) w :=
 run_loadVar_row w B 106 106 cs (0, 0) _ h Tryz.underlying106 rfl (by rw [hs]; kernel_rfl)

set_option maxRecDepth 100000 in
theorem rdecode_2 (K : Nat) (A : Option Addr) (n c : Nat) (l : List UInt8) (w : World) (hr : Rd w K A n l) (h : n < 60) :
   Calls Tryz.prog 44 #[.slice A n c] w (Decodes l w) := by
 have Hf := hid fun w' (hb : Below w.heap.size w w') => Decodes.bad (derr_2 (l := l) (by rw [hr.1]; exact h)) (by decide) hb
 go_enter Tryz.func44, Tryz.ntmps44
 go_wp2_with fail
 exact bodyPost_ret (v := .tuple #[.agg #[.string ⟨#[]⟩, .int .i64 0, .int .i64 0, .int .i64 0, .int .i64 0, .int .i64 0], .int .i64 2]) (by simp [results, Tryz.results44, go_sem]) rfl (Hf.out _ ((Below.refl _ _).alloc (Nat.le_refl _) _))

set_option maxRecDepth 100000 in
set_option maxHeartbeats 1000000 in
theorem rdecode_4 (K b o : Nat) (n c : Nat) (l : List UInt8) (w : World) (hr : Rd w K (some ⟨b, o, none⟩) n l) (hK : K ≤ w.heap.size) (h : 60 ≤ n) (hx : ¬ (l.drop 58).take 2 = [96, 10]) :
   Calls Tryz.prog 44 #[.slice (some ⟨b, o, none⟩) n c] w (Decodes l w) := by
 have hll : 60 ≤ l.length := by rw [hr.1]; exact h
 have Hf := hid fun w' (hb : Below w.heap.size w w') => Decodes.bad (derr_4 hll hx) (by decide) hb
 have hb0 : Below w.heap.size w (w.alloc z23) := (Below.refl _ _).alloc (Nat.le_refl _) _
 have hr1 := ((hr.more hK).below hb0)
 have Hb0 := hid hb0
 unfold z23 at Hb0 hr1
 obtain ⟨b1, o1, e1, hbK, h58⟩ := hr1.2 58 (by omega)
 obtain ⟨b2, o2, e2, _, h59⟩ := hr1.2 59 (by omega)
 injection e1 with e1; injection e1 with e1 e1'; subst e1; subst e1'
 injection e2 with e2; injection e2 with e2 e2'; subst e2; subst e2'
 rw [mark_iff hll] at hx
 generalize l[58] = x at *
 generalize l[59] = y at *
 clear hr1 hb0 hr hll
 by_cases hx1 : x = 96
 · have hy : y ≠ 10 := fun e => hx ⟨hx1, e⟩
   subst hx1
   have t2 : ((y.toNat : Int) != 10) = true := by
     rw [bne_iff_ne]; intro e; apply hy; rw [← UInt8.toNat_inj]; show y.toNat = 10; omega
   clear hx hy
   go_enter Tryz.func44, Tryz.ntmps44
   go_wp2_with fail
   exact bodyPost_ret (v := .tuple #[.agg #[.string ⟨#[]⟩, .int .i64 0, .int .i64 0, .int .i64 0, .int .i64 0, .int .i64 0], .int .i64 4]) (by simp [results, Tryz.results44, go_sem]) rfl (Hf.out _ Hb0.out)
 · have t1 : ((x.toNat : Int) != 96) = true := by
     rw [bne_iff_ne]; intro e; apply hx1; rw [← UInt8.toNat_inj]; show x.toNat = 96; omega
   clear hx hx1
   go_enter Tryz.func44, Tryz.ntmps44
   go_wp2_with fail
   exact bodyPost_ret (v := .tuple #[.agg #[.string ⟨#[]⟩, .int .i64 0, .int .i64 0, .int .i64 0, .int .i64 0, .int .i64 0], .int .i64 4]) (by simp [results, Tryz.results44, go_sem]) rfl (Hf.out _ Hb0.out)

theorem two_blocks {w w2 : World} {m : Nat} {c1 c2 : Array Value} {t : TypeId} (h : w2 = ((w.alloc (.cells c1 t)).alloc (.cells c2 t)).drewN m) :
   w2.heap[w.heap.size]? = some (.cells c1 t (0, 0)) ∧ w2.heap[w.heap.size + 1]? = some (.cells c2 t (0, 0)) ∧ w2.heap.size = w.heap.size + 2 ∧ Below w.heap.size w w2 := by
 subst h
 refine ⟨?_, ?_, by simp, (((Below.refl _ _).alloc (Nat.le_refl _) _).alloc (by simp) _).trans (below_drewN _ _)⟩
 · show ((w.alloc (.cells c1 t)).alloc (.cells c2 t)).heap[w.heap.size]? = _
   rw [Below.heap_alloc _ _ _ (by simp)]
   exact heap_alloc_new w _
 · show ((w.alloc (.cells c1 t)).alloc (.cells c2 t)).heap[w.heap.size + 1]? = _
   have := heap_alloc_new (w.alloc (.cells c1 t)) (.cells c2 t)
   rw [World.size_alloc] at this
   exact this
theorem row_free {w : World} {B : Nat} {cs : Array Value} {t : TypeId} (h : w.heap[B]? = some (.cells cs t (0, 0))) : ∀ j, w.frozen? ⟨B, j, none⟩ = false := fun j => by simp [World.frozen?, h]

set_option maxRecDepth 100000 in
set_option maxHeartbeats 4000000 in
theorem rdecode_6 (K b o : Nat) (n c : Nat) (l : List UInt8) (w : World) (hr : Rd w K (some ⟨b, o, none⟩) n l) (hK : K ≤ w.heap.size) (h : 60 ≤ n) (hc : n ≤ c) (hx : (l.drop 58).take 2 = [96, 10]) (h6 : nameOk (nm l) = false) :
   Calls Tryz.prog 44 #[.slice (some ⟨b, o, none⟩) n c] w (Decodes l w) := by
 have hll : 60 ≤ l.length := by rw [hr.1]; exact h
 have Hf := hid fun w' (hb : Below w.heap.size w w') => Decodes.bad (derr_6 hll hx h6) (by decide) hb
 have hb0 : Below w.heap.size w (w.alloc z23) := (Below.refl _ _).alloc (Nat.le_refl _) _
 have HR0 := hid (hr.more hK)
 have hr1 := ((hr.more hK).below hb0)
 unfold z23 at hr1
 obtain ⟨b1, o1, e1, hbK, h58⟩ := hr1.2 58 (by omega)
 obtain ⟨b2, o2, e2, _, h59⟩ := hr1.2 59 (by omega)
 injection e1 with e1; injection e1 with e1 e1'; subst e1; subst e1'
 injection e2 with e2; injection e2 with e2 e2'; subst e2; subst e2'
 rw [mark_iff hll] at hx
 rw [hx.1] at h58
 rw [hx.2] at h59
 have HR := hid hr1
 have hns := nm_size l
 have Hn := hid fun w' => rfits_any (nm l) w' (by omega)
 have Hll := hid hll
 clear hr1 hb0 hr hx hll
 go_enter Tryz.func44, Tryz.ntmps44
 go_wp2_with fail
 go_loop [4] (fun i => ∃ j : Nat, i = .int .i64 (j : Int) ∧ j ≤ 16 ∧ l.take 16 = l.take j ++ List.replicate (16 - j) 32) (fun i => numOf i)
 case atStart => exact ⟨16, rfl, by omega, trim_start l⟩
 case round =>
   obtain ⟨j, rfl, hj, htr⟩ := hrel
   have Htr := hid htr
   clear htr
   rcases Nat.eq_zero_or_pos j with rfl | hpos
   · have hby := trim_exit Htr.out (by rw [List.take_zero]; exact suffix_nil)
     have HR2 := hid (HR.out.pre (show 0 ≤ n by omega))
     have Hnm := hid (nm_take hby)
     go_wp2_with (first
       | (refine wpList_str _ _ _ _ _ _ HR2.out rfl (.tmp 38) rfl rfl ?_; rw [Hnm.out])
       | (go_at_call 68; refine (Hn.out _).mono ?_; rintro e w2 ⟨rfl, m2, hw2⟩; rw [h6]; have hh0 := (two_blocks hw2).1; have hbW := (two_blocks hw2).2.2.2; have kc := fun j => cell_of_row w2 w.heap.size j _ 106 (0, 0) hh0; have kz := row_free hh0; have Hh0 := hid hh0; have HbW := hid hbW; clear hw2 hh0 hbW))
     have hl := load_six23 _ _ _ (six w2 w.heap.size _ 106 Hh0.out rfl (.string ⟨#[]⟩) (.int .i64 0) (.int .i64 0) (.int .i64 0) (.int .i64 0) (.int .i64 0)) rfl
     exact bodyPost_ret (v := .tuple #[.agg #[.string ⟨#[]⟩, .int .i64 0, .int .i64 0, .int .i64 0, .int .i64 0, .int .i64 0], .int .i64 6]) (by simp [results, Tryz.results44, asAddr, hl]) rfl (Hf.out _ (six_below HbW.out (Nat.le_refl _) _ _ _ _ _ _))
   · obtain ⟨q, rfl⟩ : ∃ q, j = q + 1 := ⟨j - 1, by omega⟩
     have hql : q < l.length := by have := Hll.out; omega
     obtain ⟨b3, o3, e3, _, hq⟩ := HR.out.2 q hql
     injection e3 with e3; injection e3 with e3 e3'; subst e3; subst e3'
     have Hst := hid fun (h32 : l[q]'hql = 32) => trim_step Hll.out (show q < 16 by omega) Htr.out h32
     have Hsp := hid fun (h32 : l[q]'hql ≠ 32) => trim_stop Hll.out (show q < 16 by omega) h32
     generalize hcq : l[q]'hql = x at *
     by_cases h32 : x = 32
     · subst h32
       have Hs := hid (Hst.out rfl)
       clear Hst Hsp
       go_wp2_with fail
       go_round
       case rel => exact ⟨q, rfl, by omega, Hs.out⟩
       case measure => simp [numOf]
     · have t1 : ((x.toNat : Int) == 32) = false := by
         rw [beq_eq_false_iff_ne]; intro e; apply h32; rw [← UInt8.toNat_inj]; show x.toNat = 32; omega
       have hby := trim_exit Htr.out (Hsp.out h32)
       have HR2 := hid (HR.out.pre (show q + 1 ≤ n by omega))
       have Hnm := hid (nm_take hby)
       clear Hst Hsp h32 hcq
       go_wp2_with (first
         | (refine wpList_str _ _ _ _ _ _ HR2.out rfl (.tmp 38) rfl rfl ?_; rw [Hnm.out])
         | (go_at_call 68; refine (Hn.out _).mono ?_; rintro e w2 ⟨rfl, m2, hw2⟩; rw [h6]; have hh0 := (two_blocks hw2).1; have hbW := (two_blocks hw2).2.2.2; have kc := fun j => cell_of_row w2 w.heap.size j _ 106 (0, 0) hh0; have kz := row_free hh0; have Hh0 := hid hh0; have HbW := hid hbW; clear hw2 hh0 hbW))
       have hl := load_six23 _ _ _ (six w2 w.heap.size _ 106 Hh0.out rfl (.string ⟨#[]⟩) (.int .i64 0) (.int .i64 0) (.int .i64 0) (.int .i64 0) (.int .i64 0)) rfl
       exact bodyPost_ret (v := .tuple #[.agg #[.string ⟨#[]⟩, .int .i64 0, .int .i64 0, .int .i64 0, .int .i64 0, .int .i64 0], .int .i64 6]) (by simp [results, Tryz.results44, asAddr, hl]) rfl (Hf.out _ (six_below HbW.out (Nat.le_refl _) _ _ _ _ _ _))
end Go.Proofs.YtjobmkodgodloaaGreatDoor.Hdr

namespace Go.Proofs.YtjobmkodgodloaaGreatDoor.Hdr
open Go.RowKit Go.Proofs Go.Proofs.YtjobmkodgodloaaGreatDoor.Byt Go.Proofs.YtjobmkodgodloaaGreatDoor.Str Go.Proofs.YtjobmkodgodloaaGreatDoor.Dec

theorem mk5 (w : World) : (Go.Instr.makeSlice 129 (.int .i64 5) (.int .i64 5)).run Tryz.prog w = Go.Result.ok (.slice (some ⟨w.heap.size, 0, none⟩) 5 5) (w.alloc (.cells #[.bool false, .bool false, .bool false, .bool false, .bool false] 4)) := by kernel_rfl
theorem wpList_made {ops : Array Oper} {rest : List Oper} {o : Oper} {a : Act} {Q : Exit → Act → World → Prop} {w w' : World} (hgd : o.guard = none) (t : TypeId) (x y : Operand) (ho : o.op = .makeSlice t x y) (vx vy : Value) (hx : a.eval x = vx) (hy : a.eval y = vy)
   (v : Value) (hrun : (Go.Instr.makeSlice t vx vy).run Tryz.prog w = Go.Result.ok v w') (h : wpList Tryz.prog ops Q rest (a.put o.dst v) w') : wpList Tryz.prog ops Q (o :: rest) a w := by
 refine wpList_plain hgd fun K' hK' => ?_
 unfold Oper.wp execOp
 simp only [ho, hx, hy, Sem.run_bind, Sem.run_pure, hrun, Result.andThen_ok]
 exact hK' _ _ h

structure RS (w : World) (l : List UInt8) (k : Nat) (W : World) : Prop where
 res : W.heap[w.heap.size]? = some (.cells #[.string ⟨#[]⟩, .int .i64 0, .int .i64 0, .int .i64 0, .int .i64 0, .int .i64 0] 106 (0, 0))
 hdr : W.heap[w.heap.size + 1]? = some (.cells (hcells l k) 106 (0, 0))
 oks : W.heap[w.heap.size + 2]? = some (.cells (okcells l k) 4 (0, 0))
 bel : Below w.heap.size w W
theorem RS.size {w W : World} {l : List UInt8} {k : Nat} (h : RS w l k W) : w.heap.size + 2 < W.heap.size := (Array.getElem?_eq_some_iff.1 h.oks).1
theorem RS.call {w W W' : World} {l : List UInt8} {k : Nat} (h : RS w l k W) (hb : Below W.heap.size W W') : RS w l k W' := by
 have hz := h.size
 exact ⟨(hb.block _ (by omega)).trans h.res, (hb.block _ (by omega)).trans h.hdr, (hb.block _ (by omega)).trans h.oks, h.bel.trans (hb.mono (by omega))⟩
theorem RS.stores {w W : World} {l : List UInt8} {k : Nat} (h : RS w l k W) (hk : k < 5) :
   RS w l (k + 1) ((W.setCell ⟨w.heap.size + 1, k + 1, none⟩ (.int .i64 (((rdF (isTab (nm l)) k (part l k)).getD 0 : Nat) : Int))).setCell ⟨w.heap.size + 2, k, none⟩ (.bool (rdF (isTab (nm l)) k (part l k)).isSome)) := by
 have e1 := Below.heap_setCell W ⟨w.heap.size + 1, k + 1, none⟩ (.int .i64 (((rdF (isTab (nm l)) k (part l k)).getD 0 : Nat) : Int))
 refine ⟨?_, ?_, ?_, (h.bel.setCell (p := ⟨w.heap.size + 1, k + 1, none⟩) (by show w.heap.size ≤ w.heap.size + 1; omega) _).setCell (p := ⟨w.heap.size + 2, k, none⟩) (by show w.heap.size ≤ w.heap.size + 2; omega) _⟩
 · rw [Below.heap_setCell _ _ _ _ (by show w.heap.size ≠ w.heap.size + 2; omega), e1 _ (by show w.heap.size ≠ w.heap.size + 1; omega)]; exact h.res
 · rw [Below.heap_setCell _ _ _ _ (by show w.heap.size + 1 ≠ w.heap.size + 2; omega), heap_setCell_same _ _ _ _ _ _ h.hdr, hcells_put hk]
 · rw [heap_setCell_same _ _ _ (okcells l k) 4 _ (by rw [e1 _ (by show w.heap.size + 2 ≠ w.heap.size + 1; omega)]; exact h.oks), okcells_set hk]
theorem RS.read {w W : World} {l : List UInt8} {k b o n : Nat} (h : RS w l k W) (hr : Rd w w.heap.size (some ⟨b, o, none⟩) n l) (hn : 60 ≤ n) (hk : k < 5) : Rd W w.heap.size (some ⟨b, o + off k, none⟩) (wd k) (part l k) := part_rd (hr.below h.bel) hn k hk

set_option maxRecDepth 100000 in
set_option maxHeartbeats 4000000 in
theorem rdecode_0 (K b o : Nat) (n c : Nat) (l : List UInt8) (w : World) (hr : Rd w K (some ⟨b, o, none⟩) n l) (hK : K ≤ w.heap.size) (h : 60 ≤ n) (hc : n ≤ c) (hx : (l.drop 58).take 2 = [96, 10]) (h6 : nameOk (nm l) = true) :
   Calls Tryz.prog 44 #[.slice (some ⟨b, o, none⟩) n c] w (Decodes l w) := by
 have hll : 60 ≤ l.length := by rw [hr.1]; exact h
 have H3 := hid fun (h4 : allRd l 5 = false) w' (hb : Below w.heap.size w w') => Decodes.bad (derr_3 hll hx h6 h4) (by decide) hb
 have H0 := hid fun (h4 : allRd l 5 = true) w' (hb : Below w.heap.size w w') => Decodes.good (derr_0 hll hx h6 h4) hb
 have hb0 : Below w.heap.size w (w.alloc z23) := (Below.refl _ _).alloc (Nat.le_refl _) _
 have HR0 := hid (hr.more hK)
 have hr1 := ((hr.more hK).below hb0)
 unfold z23 at hr1
 obtain ⟨b1, o1, e1, hbK, h58⟩ := hr1.2 58 (by omega)
 obtain ⟨b2, o2, e2, _, h59⟩ := hr1.2 59 (by omega)
 injection e1 with e1; injection e1 with e1 e1'; subst e1; subst e1'
 injection e2 with e2; injection e2 with e2 e2'; subst e2; subst e2'
 rw [mark_iff hll] at hx
 rw [hx.1] at h58
 rw [hx.2] at h59
 have HR := hid hr1
 have hns := nm_size l
 have Hn := hid fun w' => rfits_any (nm l) w' (by omega)
 have Hll := hid hll
 clear hr1 hb0 hr hx hll
 go_enter Tryz.func44, Tryz.ntmps44
 go_wp2_with fail
 go_loop [4] (fun i => ∃ j : Nat, i = .int .i64 (j : Int) ∧ j ≤ 16 ∧ l.take 16 = l.take j ++ List.replicate (16 - j) 32) (fun i => numOf i)
 case atStart => exact ⟨16, rfl, by omega, trim_start l⟩
 case round =>
   obtain ⟨j, rfl, hj, htr⟩ := hrel
   have Htr := hid htr
   clear htr
   rcases Nat.eq_zero_or_pos j with rfl | hpos
   · have hby := trim_exit Htr.out (by rw [List.take_zero]; exact suffix_nil)
     have h0 := (nameOk_iff.1 h6).1
     rw [← by_length, hby] at h0
     simp at h0
   · obtain ⟨q, rfl⟩ : ∃ q, j = q + 1 := ⟨j - 1, by omega⟩
     have hql : q < l.length := by have := Hll.out; omega
     obtain ⟨b3, o3, e3, _, hq⟩ := HR.out.2 q hql
     injection e3 with e3; injection e3 with e3 e3'; subst e3; subst e3'
     have Hst := hid fun (h32 : l[q]'hql = 32) => trim_step Hll.out (show q < 16 by omega) Htr.out h32
     have Hsp := hid fun (h32 : l[q]'hql ≠ 32) => trim_stop Hll.out (show q < 16 by omega) h32
     generalize hcq : l[q]'hql = x at *
     by_cases h32 : x = 32
     · subst h32
       have Hs := hid (Hst.out rfl)
       clear Hst Hsp
       go_wp2_with fail
       go_round
       case rel => exact ⟨q, rfl, by omega, Hs.out⟩
       case measure => simp [numOf]
     · have t1 : ((x.toNat : Int) == 32) = false := by
         rw [beq_eq_false_iff_ne]; intro e; apply h32; rw [← UInt8.toNat_inj]; show x.toNat = 32; omega
       have hby := trim_exit Htr.out (Hsp.out h32)
       have HR2 := hid (HR.out.pre (show q + 1 ≤ n by omega))
       have Hnm := hid (nm_take hby)
       clear Hst Hsp h32 hcq
       go_wp2_with (first
         | (refine wpList_str _ _ _ _ _ _ HR2.out rfl (.tmp 38) rfl rfl ?_; rw [Hnm.out])
         | (go_at_call 68; refine (Hn.out _).mono ?_; rintro e w2 ⟨rfl, m2, hw2⟩; rw [h6]; have hh0 := (two_blocks hw2).1; have hh1 := (two_blocks hw2).2.1; have hz2 := (two_blocks hw2).2.2.1; have hbW := (two_blocks hw2).2.2.2; have kd := fun j => cell_of_row w2 (w.heap.size + 1) j _ 106 (0, 0) hh1; have kn : w2.cell? ⟨w.heap.size + 1, 0, none⟩ = some (.string (nm l)) := kd 0; have HH := hid (And.intro hh0 (And.intro hh1 (And.intro hz2 hbW))); clear hw2 kd hh0 hh1 hbW)
         | (at_make; refine wpList_made rfl _ _ _ rfl _ _ rfl rfl _ (mk5 _) ?_))
       have rs : RS w l 0 (w2.alloc (.cells #[.bool false, .bool false, .bool false, .bool false, .bool false] 4)) := by
         obtain ⟨g0, g1, g2, g3⟩ := HH.out
         refine ⟨?_, ?_, ?_, g3.alloc (by omega) _⟩
         · rw [Below.heap_alloc _ _ _ (by omega)]; exact g0
         · rw [Below.heap_alloc _ _ _ (by omega)]; exact g1
         · rw [← g2]; exact heap_alloc_new w2 _
       clear kn HR2 Hnm
       have hq0 := rs.read HR0.out h (show 0 < 5 by omega)
       have hz := rs.size
       refine (rnumber_at (isTab (nm l)) 0 _ _ (c - 16) _ _ hq0 (by omega)).mono ?_
       rintro e w3 ⟨rfl, hb3⟩
       replace rs := rs.call hb3
       have Rs := hid (rs.stores (show 0 < 5 by omega))
       have kx : w3.cell? ⟨w.heap.size + 1, 1, none⟩ = some (.int .i64 0) := cell_of_row w3 (w.heap.size + 1) 1 _ 106 (0, 0) rs.hdr
       have ko : w3.cell? ⟨w.heap.size + 2, 0, none⟩ = some (.bool false) := cell_of_row w3 (w.heap.size + 2) 0 _ 4 (0, 0) rs.oks
       have fx := row_free rs.hdr
       have fo := row_free rs.oks
       clear rs hb3 hq0 hz
       go_wp2_with fail
       have rs := Rs.out
       clear Rs kx ko fx fo
       have hq1 := rs.read HR0.out h (show 1 < 5 by omega)
       have hz := rs.size
       refine (rnumber_at (isTab (nm l)) 1 _ _ (c - 28) _ _ hq1 (by omega)).mono ?_
       rintro e w4 ⟨rfl, hb4⟩
       replace rs := rs.call hb4
       have Rs := hid (rs.stores (show 1 < 5 by omega))
       have kx : w4.cell? ⟨w.heap.size + 1, 2, none⟩ = some (.int .i64 0) := cell_of_row w4 (w.heap.size + 1) 2 _ 106 (0, 0) rs.hdr
       have ko : w4.cell? ⟨w.heap.size + 2, 1, none⟩ = some (.bool false) := cell_of_row w4 (w.heap.size + 2) 1 _ 4 (0, 0) rs.oks
       have fx := row_free rs.hdr
       have fo := row_free rs.oks
       clear rs hb4 hq1 hz
       go_wp2_with fail
       have rs := Rs.out
       clear Rs kx ko fx fo
       have hq2 := rs.read HR0.out h (show 2 < 5 by omega)
       have hz := rs.size
       refine (rnumber_at (isTab (nm l)) 2 _ _ (c - 34) _ _ hq2 (by omega)).mono ?_
       rintro e w5 ⟨rfl, hb5⟩
       replace rs := rs.call hb5
       have Rs := hid (rs.stores (show 2 < 5 by omega))
       have kx : w5.cell? ⟨w.heap.size + 1, 3, none⟩ = some (.int .i64 0) := cell_of_row w5 (w.heap.size + 1) 3 _ 106 (0, 0) rs.hdr
       have ko : w5.cell? ⟨w.heap.size + 2, 2, none⟩ = some (.bool false) := cell_of_row w5 (w.heap.size + 2) 2 _ 4 (0, 0) rs.oks
       have fx := row_free rs.hdr
       have fo := row_free rs.oks
       clear rs hb5 hq2 hz
       go_wp2_with fail
       have rs := Rs.out
       clear Rs kx ko fx fo
       have hq3 := rs.read HR0.out h (show 3 < 5 by omega)
       have hz := rs.size
       refine (rnumber_at (isTab (nm l)) 3 _ _ (c - 40) _ _ hq3 (by omega)).mono ?_
       rintro e w6 ⟨rfl, hb6⟩
       replace rs := rs.call hb6
       have Rs := hid (rs.stores (show 3 < 5 by omega))
       have kx : w6.cell? ⟨w.heap.size + 1, 4, none⟩ = some (.int .i64 0) := cell_of_row w6 (w.heap.size + 1) 4 _ 106 (0, 0) rs.hdr
       have ko : w6.cell? ⟨w.heap.size + 2, 3, none⟩ = some (.bool false) := cell_of_row w6 (w.heap.size + 2) 3 _ 4 (0, 0) rs.oks
       have fx := row_free rs.hdr
       have fo := row_free rs.oks
       clear rs hb6 hq3 hz
       go_wp2_with fail
       have rs := Rs.out
       clear Rs kx ko fx fo
       have hq4 := rs.read HR0.out h (show 4 < 5 by omega)
       have hz := rs.size
       refine (rnumber_at (isTab (nm l)) 4 _ _ (c - 48) _ _ hq4 (by omega)).mono ?_
       rintro e w7 ⟨rfl, hb7⟩
       replace rs := rs.call hb7
       have Rs := hid (rs.stores (show 4 < 5 by omega))
       have kx : w7.cell? ⟨w.heap.size + 1, 5, none⟩ = some (.int .i64 0) := cell_of_row w7 (w.heap.size + 1) 5 _ 106 (0, 0) rs.hdr
       have ko : w7.cell? ⟨w.heap.size + 2, 4, none⟩ = some (.bool false) := cell_of_row w7 (w.heap.size + 2) 4 _ 4 (0, 0) rs.oks
       have fx := row_free rs.hdr
       have fo := row_free rs.oks
       clear rs hb7 hq4 hz
       go_wp2_with fail
       have rs := Rs.out
       clear Rs kx ko fx fo
       generalize ((w7.setCell ⟨w.heap.size + 1, 4 + 1, none⟩ (.int .i64 (((rdF (isTab (nm l)) 4 (part l 4)).getD 0 : Nat) : Int))).setCell ⟨w.heap.size + 2, 4, none⟩ (.bool (rdF (isTab (nm l)) 4 (part l 4)).isSome)) = W at rs ⊢
       have kc := fun j => cell_of_row W w.heap.size j _ 106 (0, 0) rs.res
       have kz := row_free rs.res
       have ko := hid fun j => cell_of_row W (w.heap.size + 2) j _ 4 (0, 0) rs.oks
       have kh := hid fun j => cell_of_row W (w.heap.size + 1) j _ 106 (0, 0) rs.hdr
       have hz := rs.size
       have Rs := hid rs
       clear rs
       go_loop [8] (fun i => ∃ j : Nat, i = .int .i64 (j : Int) ∧ j ≤ 5 ∧ Hid (∀ p, p < j → okc l 5 p = true)) (fun i => 5 - numOf i)
       case atStart => exact ⟨0, rfl, by omega, hid fun p hp => by omega⟩
       case round =>
         obtain ⟨j, rfl, hj5, hall⟩ := hrel
         by_cases hlt : j < 5
         · have hoj : W.cell? ⟨w.heap.size + 2, j, none⟩ = some (.bool (okc l 5 j)) := by
             rw [ko.out j]
             have h5 : j = 0 ∨ j = 1 ∨ j = 2 ∨ j = 3 ∨ j = 4 := by omega
             rcases h5 with rfl | rfl | rfl | rfl | rfl <;> rfl
           cases hv : okc l 5 j
           · rw [hv] at hoj
             have Hx := hid (H3.out (allRd_not hlt hv))
             clear hv
             go_wp2_with fail
             have hl := load_six23 _ _ _ (six W w.heap.size _ 106 Rs.out.res rfl (.string ⟨#[]⟩) (.int .i64 0) (.int .i64 0) (.int .i64 0) (.int .i64 0) (.int .i64 0)) rfl
             exact bodyPost_ret (v := .tuple #[.agg #[.string ⟨#[]⟩, .int .i64 0, .int .i64 0, .int .i64 0, .int .i64 0, .int .i64 0], .int .i64 3]) (by simp [results, Tryz.results44, asAddr, hl]) rfl (Hx.out _ (six_below Rs.out.bel (Nat.le_refl _) _ _ _ _ _ _))
           · rw [hv] at hoj
             have Hn : Hid (∀ p, p < j + 1 → okc l 5 p = true) := hid fun p hp => by
               by_cases e : p = j
               · rw [e]; exact hv
               · exact hall.out p (by omega)
             clear hv
             go_wp2_with fail
             go_round
             case rel => exact ⟨j + 1, by go_num, by omega, Hn⟩
             case measure => simp [numOf]; omega
         · obtain rfl : j = 5 := by omega
           have Hx := hid (H0.out (allRd_of hall.out 5 (by omega)))
           have d0 : W.cell? ⟨w.heap.size + 1, 0, none⟩ = some (.string (nm l)) := kh.out 0
           have d1 : W.cell? ⟨w.heap.size + 1, 1, none⟩ = some (.int .i64 (val l 5 0)) := kh.out 1
           have d2 : W.cell? ⟨w.heap.size + 1, 2, none⟩ = some (.int .i64 (val l 5 1)) := kh.out 2
           have d3 : W.cell? ⟨w.heap.size + 1, 3, none⟩ = some (.int .i64 (val l 5 2)) := kh.out 3
           have d4 : W.cell? ⟨w.heap.size + 1, 4, none⟩ = some (.int .i64 (val l 5 3)) := kh.out 4
           have d5 : W.cell? ⟨w.heap.size + 1, 5, none⟩ = some (.int .i64 (val l 5 4)) := kh.out 5
           go_wp2_with fail
           have hl := load_six23 _ _ _ (six W w.heap.size _ 106 Rs.out.res rfl (.string (nm l)) (.int .i64 (val l 5 0)) (.int .i64 (val l 5 1)) (.int .i64 (val l 5 2)) (.int .i64 (val l 5 3)) (.int .i64 (val l 5 4))) rfl
           exact bodyPost_ret (v := .tuple #[.agg #[.string (nm l), .int .i64 (val l 5 0), .int .i64 (val l 5 1), .int .i64 (val l 5 2), .int .i64 (val l 5 3), .int .i64 (val l 5 4)], .int .i64 0]) (by simp [results, Tryz.results44, asAddr, hl]) rfl
             (Hx.out _ (six_below Rs.out.bel (Nat.le_refl _) _ _ _ _ _ _))

theorem rdecode_any (K : Nat) (A : Option Addr) (n c : Nat) (l : List UInt8) (w : World) (hr : Rd w K A n l) (hK : K ≤ w.heap.size) (hc : n ≤ c) :
   Calls Tryz.prog 44 #[.slice A n c] w (Decodes l w) := by
 by_cases h : n < 60
 · exact rdecode_2 K A n c l w hr h
 · obtain ⟨b, o, rfl, _⟩ := Rd_where hr (by omega)
   have h60 : 60 ≤ n := by omega
   by_cases hx : (l.drop 58).take 2 = [96, 10]
   · cases h6 : nameOk (nm l)
     · exact rdecode_6 K b o n c l w hr hK h60 hc hx h6
     · exact rdecode_0 K b o n c l w hr hK h60 hc hx h6
   · exact rdecode_4 K b o n c l w hr hK h60 hx
end Go.Proofs.YtjobmkodgodloaaGreatDoor.Hdr
