/-
  objsym's reference: Valid, Word, Number.
  objsym's reference: Word, Number, Few.
  objsym's reference: Encode.
  objsym's reference: Decode.
  objsym: what Encode and Decode give, in the forms that callers take.
-/
import Derived.Test.YtjobmkodgodloaaGreatDoorYOg
import Derived.Deep.CutRange
import Derived.BigQuiet
import Derived.Laws.StructEq
import Derived.Deep.DeepMust
import Derived.Deep.RegionHeld3
namespace Go.Proofs.YtjobmkodgodloaaGreatDoor.Obj
open Go.RowKit Go.Proofs Go.Proofs.YtjobmkodgodloaaGreatDoor.Byt
open Go.Proofs.YtjobmkodgodloaaGreatDoor.Sls (Oth)

theorem below_drewN {K : Nat} (w : World) (m : Nat) : Below K w (w.drewN m) := ⟨rfl, rfl, rfl, Nat.le_refl _, fun _ _ => rfl⟩

theorem cell_keep {W W1 : World} {p : Addr} {v : Value} (hb : Below W.heap.size W W1) (h : W.cell? p = some v) : W1.cell? p = some v := by
 rw [hb.cell (World.block_lt_of_cell? W p h)]; exact h
theorem keep_v {V W W1 : World} {B C q : Nat} {v0 u0 u1 u2 u3 : Value} (h : W.cell? ⟨B, 0, none⟩ = some v0 ∧ W.cell? ⟨C, q, none⟩ = some u0 ∧ W.cell? ⟨C, q + 1, none⟩ = some u1 ∧ W.cell? ⟨C, q + 2, none⟩ = some u2 ∧ W.cell? ⟨C, q + 3, none⟩ = some u3 ∧ Below V.heap.size V W) (hb : Below W.heap.size W W1) :
   W1.cell? ⟨B, 0, none⟩ = some v0 ∧ W1.cell? ⟨C, q, none⟩ = some u0 ∧ W1.cell? ⟨C, q + 1, none⟩ = some u1 ∧ W1.cell? ⟨C, q + 2, none⟩ = some u2 ∧ W1.cell? ⟨C, q + 3, none⟩ = some u3 ∧ Below V.heap.size V W1 := by
 obtain ⟨h0, h4, h5, h6, h7, h8⟩ := h
 exact ⟨cell_keep hb h0, cell_keep hb h4, cell_keep hb h5, cell_keep hb h6, cell_keep hb h7, h8.trans (hb.mono h8.size)⟩
theorem held_v {V W : World} {B C q : Nat} {v0 u0 u1 u2 u3 : Value} (h : W.cell? ⟨B, 0, none⟩ = some v0 ∧ W.cell? ⟨C, q, none⟩ = some u0 ∧ W.cell? ⟨C, q + 1, none⟩ = some u1 ∧ W.cell? ⟨C, q + 2, none⟩ = some u2 ∧ W.cell? ⟨C, q + 3, none⟩ = some u3 ∧ Below V.heap.size V W) : Below V.heap.size V W := by
 obtain ⟨_, _, _, _, _, h8⟩ := h
 exact h8

set_option linter.unusedSimpArgs false in
set_option maxRecDepth 100000 in
set_option maxHeartbeats 6000000 in
theorem rvalid_any (K : Nat) (A B : Option Addr) (n c m d : Nat) (xs : List Sy) (w : World) (h : RdS w K A n xs) (hK : K ≤ w.heap.size) (hn : n ≤ 140737488355328) (hnc : n ≤ c) :
   Calls Tryz.prog 50 #[.agg #[.slice A n c, .slice B m d]] w fun e w' => e = .returned (.bool (validO xs)) ∧ Below w.heap.size w w' := by
 have Hl := hid h.1
 have hb0 := (Below.refl w.heap.size w).alloc (Nat.le_refl _) (.cells #[.slice A n c, .slice B m d] 72)
 have hrow0 := heap_alloc_new w (.cells #[.slice A n c, .slice B m d] 72)
 have hsz0 : (w.alloc (.cells #[.slice A n c, .slice B m d] 72)).heap.size = w.heap.size + 1 := World.size_alloc _ _
 have h0 := h.below (hb0.mono hK)
 go_enter Tryz.func50, Tryz.ntmps50
 go_wp2_with fail
 generalize w.alloc (.cells #[.slice A n c, .slice B m d] 72) = w0 at *
 go_loopw [3] (fun i W => ∃ k : Nat, i = .int .i64 (k : Int) ∧ k ≤ n ∧ Hid (goodL [] xs = goodL (xs.take k) (xs.drop k)) ∧ Below (w.heap.size + 1) w0 W) (fun i _ => n - (intOf i).toNat)
 case atStart => exact ⟨0, rfl, by omega, hid rfl, Below.refl _ _⟩
 case round =>
   obtain ⟨k, rfl, hk, hG, hb⟩ := hrel
   have hrow := (hb.block w.heap.size (by omega)).trans hrow0
   have q0 := cell_of_row _ w.heap.size 0 _ _ _ hrow
   have hwr : w.heap.size + 1 ≤ wr.heap.size := by have := hb.size; omega
   by_cases hlt : k < n
   · have hkl : k < xs.length := by have := Hl.out; omega
     have hkc : (k : Int) ≤ (c : Int) := by omega
     have hk0 : ¬ (k : Int) < 0 := by omega
     have hR := h0.below (hb.mono (by omega))
     obtain ⟨⟨b, o, rfl, hbK, hcell⟩, hsz⟩ := hR.2 k hkl
     have Hstep := hid (goodL_step hkl)
     have HC : Hid (∀ W, Below wr.heap.size wr W → Calls Tryz.prog 70 #[xs[k].val] W fun e W' => e = .returned (.bool (symOk xs[k])) ∧ Below W.heap.size W W') := hid fun W hW => rsym_any _ W
     have HH : Hid (∀ W, Below wr.heap.size wr W → Calls Tryz.prog 71 #[.slice (some ⟨b, o, none⟩) k c, .string xs[k].name] W fun e W' => e = .returned (.bool (has (xs.take k) xs[k].name)) ∧ Below W.heap.size W W') := hid fun W hW =>
       (rhas_any K _ k c (xs.take k) _ W ((hR.below (hW.mono (by omega))).pre hk) (by omega)).mono fun e W' ⟨h1, h2⟩ => ⟨h1, by rw [h2]; exact Below.refl _ _⟩
     have hb1 : b < wr.heap.size := by omega
     have HX : Hid (∀ W, Below wr.heap.size wr W → W.cell? ⟨w.heap.size, 0, none⟩ = some (.slice (some ⟨b, o, none⟩) n c) ∧ SCells W b (o + k * 4) xs[k]) := hid fun W hW => ⟨(hW.cell (p := ⟨w.heap.size, 0, none⟩) (by show w.heap.size < _; omega)).trans q0, hcell.below hW hb1⟩
     generalize xs[k] = x at *
     obtain ⟨x0, x1, x2, x3⟩ := x
     obtain ⟨p0, p1, p2, p3⟩ := hcell
     simp only [Sy.val] at HC
     clear hR hk0
     cases hsy : symOk ⟨x0, x1, x2, x3⟩
     · rw [hsy] at HC
       have Hr : Hid (validO xs = false) := hid (by unfold validO; rw [hG.out, Hstep.out, hsy]; simp)
       have hbX0 : Below wr.heap.size wr wr.drew := (Below.refl _ _).drew
       go_upto_region 4 with fail
       go_cut [30] from 11 to 30 (fun s30 wx => s30 = .bool true ∧ Below wr.heap.size wr wx)
       case first =>
         refine Ord.Till.begin (fun W' => W'.cell? ⟨w.heap.size, 0, none⟩ = some (.slice (some ⟨b, o, none⟩) n c) ∧ W'.cell? ⟨b, o + k * 4, none⟩ = some (.string x0) ∧ W'.cell? ⟨b, o + k * 4 + 1, none⟩ = some (.int .i64 x1) ∧ W'.cell? ⟨b, o + k * 4 + 2, none⟩ = some (.int .i64 x2) ∧ W'.cell? ⟨b, o + k * 4 + 3, none⟩ = some (.int .i64 x3) ∧ Below wr.heap.size wr W') 20 (by kernel_rfl) ?_
         have hS0 : (fun W' => W'.cell? ⟨w.heap.size, 0, none⟩ = some (.slice (some ⟨b, o, none⟩) n c) ∧ W'.cell? ⟨b, o + k * 4, none⟩ = some (.string x0) ∧ W'.cell? ⟨b, o + k * 4 + 1, none⟩ = some (.int .i64 x1) ∧ W'.cell? ⟨b, o + k * 4 + 2, none⟩ = some (.int .i64 x2) ∧ W'.cell? ⟨b, o + k * 4 + 3, none⟩ = some (.int .i64 x3) ∧ Below wr.heap.size wr W') wr.drew := ⟨q0, p0, p1, p2, p3, hbX0⟩
         refine Ord.Till.take 0 (oi := _) (x := ?_) rfl (by kernel_rfl) (by kernel_rfl) (by kernel_rfl) (by kernel_rfl) (fun _ _ _ h => h) (by rfl) ?_ hS0 ?_
         rotate_left 1
         · intro v hv; obtain ⟨z1, z2, z3, z4, z5, z6⟩ := hv; go_simp; first | done | with_reducible rfl
         try simp only [Act.put, List.setIfInBounds_toArray, List.set_cons_zero, List.set_cons_succ]
         refine Ord.Till.take 1 (oi := _) (x := ?_) rfl (by kernel_rfl) (by kernel_rfl) (by kernel_rfl) (by kernel_rfl) (fun _ _ _ h => h) (by rfl) ?_ hS0 ?_
         rotate_left 1
         · intro v hv; obtain ⟨z1, z2, z3, z4, z5, z6⟩ := hv; go_simp; first | done | with_reducible rfl
         try simp only [Act.put, List.setIfInBounds_toArray, List.set_cons_zero, List.set_cons_succ]
         refine Ord.Till.take 2 (oi := _) (x := ?_) rfl (by kernel_rfl) (by kernel_rfl) (by kernel_rfl) (by kernel_rfl) (fun _ _ _ h => h) (by rfl) ?_ hS0 ?_
         rotate_left 1
         · intro v hv; obtain ⟨z1, z2, z3, z4, z5, z6⟩ := hv; go_simp; first | done | with_reducible rfl
         try simp only [Act.put, List.setIfInBounds_toArray, List.set_cons_zero, List.set_cons_succ]
         refine Ord.Till.take 3 (oi := _) (x := ?_) rfl (by kernel_rfl) (by kernel_rfl) (by kernel_rfl) (by kernel_rfl) (fun _ _ _ h => h) (by rfl) ?_ hS0 ?_
         rotate_left 1
         · intro v hv; obtain ⟨z1, z2, z3, z4, z5, z6⟩ := hv; go_simp; first | done | with_reducible rfl
         try simp only [Act.put, List.setIfInBounds_toArray, List.set_cons_zero, List.set_cons_succ]
         refine Ord.Till.take 4 (oi := _) (x := ?_) rfl (by kernel_rfl) (by kernel_rfl) (by kernel_rfl) (by kernel_rfl) (fun _ _ _ h => h) (by rfl) ?_ hS0 ?_
         rotate_left 1
         · intro v hv; obtain ⟨z1, z2, z3, z4, z5, z6⟩ := hv; go_simp; first | done | with_reducible rfl
         try simp only [Act.put, List.setIfInBounds_toArray, List.set_cons_zero, List.set_cons_succ]
         refine Ord.Till.step 5 (by kernel_rfl) rfl (fun C hC => ?_)
         go_simp
         go_at_call 70
         refine (HC.out _ hbX0).mono ?_
         rintro e w' ⟨rfl, hbX⟩
         have hS1 := keep_v hS0 hbX
         refine hC.out _ _ (fun _ => hS1) ?_
         clear hC C
         try simp only [Act.put, List.setIfInBounds_toArray, List.set_cons_zero, List.set_cons_succ]
         refine Ord.Till.take 6 (oi := _) (x := ?_) rfl (by kernel_rfl) (by kernel_rfl) (by kernel_rfl) (by kernel_rfl) (fun _ _ _ h => h) (by rfl) ?_ hS1 ?_
         rotate_left 1
         · intro v hv; obtain ⟨z1, z2, z3, z4, z5, z6⟩ := hv; go_simp; first | done | with_reducible rfl
         try simp only [Act.put, List.setIfInBounds_toArray, List.set_cons_zero, List.set_cons_succ]
         refine Ord.Till.take 7 (oi := _) (x := ?_) rfl (by kernel_rfl) (by kernel_rfl) (by kernel_rfl) (by kernel_rfl) (fun _ _ _ h => h) (by rfl) ?_ hS1 ?_
         rotate_left 1
         · intro v hv; obtain ⟨z1, z2, z3, z4, z5, z6⟩ := hv; go_simp; first | done | with_reducible rfl
         try simp only [Act.put, List.setIfInBounds_toArray, List.set_cons_zero, List.set_cons_succ]
         refine Ord.Till.skip 8 (oi := _) rfl (by kernel_rfl) (by kernel_rfl) (by kernel_rfl) (by kernel_rfl) (fun _ _ _ h => h) (by kernel_rfl) hS1 ?_
         try simp only [Act.put, List.setIfInBounds_toArray, List.set_cons_zero, List.set_cons_succ]
         refine Ord.Till.skip 9 (oi := _) rfl (by kernel_rfl) (by kernel_rfl) (by kernel_rfl) (by kernel_rfl) (fun _ _ _ h => h) (by kernel_rfl) hS1 ?_
         try simp only [Act.put, List.setIfInBounds_toArray, List.set_cons_zero, List.set_cons_succ]
         refine Ord.Till.skip 10 (oi := _) rfl (by kernel_rfl) (by kernel_rfl) (by kernel_rfl) (by kernel_rfl) (fun _ _ _ h => h) (by kernel_rfl) hS1 ?_
         try simp only [Act.put, List.setIfInBounds_toArray, List.set_cons_zero, List.set_cons_succ]
         refine Ord.Till.skip 11 (oi := _) rfl (by kernel_rfl) (by kernel_rfl) (by kernel_rfl) (by kernel_rfl) (fun _ _ _ h => h) (by kernel_rfl) hS1 ?_
         try simp only [Act.put, List.setIfInBounds_toArray, List.set_cons_zero, List.set_cons_succ]
         refine Ord.Till.skip 12 (oi := _) rfl (by kernel_rfl) (by kernel_rfl) (by kernel_rfl) (by kernel_rfl) (fun _ _ _ h => h) (by kernel_rfl) hS1 ?_
         try simp only [Act.put, List.setIfInBounds_toArray, List.set_cons_zero, List.set_cons_succ]
         refine Ord.Till.skip 13 (oi := _) rfl (by kernel_rfl) (by kernel_rfl) (by kernel_rfl) (by kernel_rfl) (fun _ _ _ h => h) (by kernel_rfl) hS1 ?_
         try simp only [Act.put, List.setIfInBounds_toArray, List.set_cons_zero, List.set_cons_succ]
         refine Ord.Till.skip 14 (oi := _) rfl (by kernel_rfl) (by kernel_rfl) (by kernel_rfl) (by kernel_rfl) (fun _ _ _ h => h) (by kernel_rfl) hS1 ?_
         try simp only [Act.put, List.setIfInBounds_toArray, List.set_cons_zero, List.set_cons_succ]
         refine Ord.Till.skip 15 (oi := _) rfl (by kernel_rfl) (by kernel_rfl) (by kernel_rfl) (by kernel_rfl) (fun _ _ _ h => h) (by kernel_rfl) hS1 ?_
         try simp only [Act.put, List.setIfInBounds_toArray, List.set_cons_zero, List.set_cons_succ]
         refine Ord.Till.skip 16 (oi := _) rfl (by kernel_rfl) (by kernel_rfl) (by kernel_rfl) (by kernel_rfl) (fun _ _ _ h => h) (by kernel_rfl) hS1 ?_
         try simp only [Act.put, List.setIfInBounds_toArray, List.set_cons_zero, List.set_cons_succ]
         refine Ord.Till.skip 17 (oi := _) rfl (by kernel_rfl) (by kernel_rfl) (by kernel_rfl) (by kernel_rfl) (fun _ _ _ h => h) (by kernel_rfl) hS1 ?_
         try simp only [Act.put, List.setIfInBounds_toArray, List.set_cons_zero, List.set_cons_succ]
         refine Ord.Till.skip 18 (oi := _) rfl (by kernel_rfl) (by kernel_rfl) (by kernel_rfl) (by kernel_rfl) (fun _ _ _ h => h) (by kernel_rfl) hS1 ?_
         try simp only [Act.put, List.setIfInBounds_toArray, List.set_cons_zero, List.set_cons_succ]
         refine Ord.Till.take 19 (oi := _) (x := ?_) rfl (by kernel_rfl) (by kernel_rfl) (by kernel_rfl) (by kernel_rfl) (fun _ _ _ h => h) (by rfl) ?_ hS1 ?_
         rotate_left 1
         · intro v hv; obtain ⟨z1, z2, z3, z4, z5, z6⟩ := hv; go_simp; first | done | with_reducible rfl
         try simp only [Act.put, List.setIfInBounds_toArray, List.set_cons_zero, List.set_cons_succ]
         refine Ord.Till.done (by kernel_rfl) ?_ _
         have hZ := held_v hS1
         go_wp2_with fail
         go_meet
         exact ⟨rfl, hZ⟩
       case rest =>
         obtain ⟨rfl, hbc⟩ := hcut
         go_wp2_with fail
         go_ret
         exact ⟨ret_bool Hr.out.symm, (hb0.trans (hb.mono (by omega))).trans (hbc.mono (by omega))⟩
     · rw [hsy] at HC
       have hbX0 : Below wr.heap.size wr wr.drew := (Below.refl _ _).drew
       obtain ⟨v, hv⟩ : ∃ v, v = has (xs.take k) x0 := ⟨_, rfl⟩
       simp only at HH
       rw [← hv] at HH
       have Hv := hid hv
       clear hv
       go_upto_region 4 with fail
       go_cut [30] from 11 to 30 (fun s30 wx => s30 = .bool v ∧ Below wr.heap.size wr wx)
       case first =>
         go_region_held3 (fun W' => W'.cell? ⟨w.heap.size, 0, none⟩ = some (.slice (some ⟨b, o, none⟩) n c) ∧ W'.cell? ⟨b, o + k * 4, none⟩ = some (.string x0) ∧ W'.cell? ⟨b, o + k * 4 + 1, none⟩ = some (.int .i64 x1) ∧ W'.cell? ⟨b, o + k * 4 + 2, none⟩ = some (.int .i64 x2) ∧ W'.cell? ⟨b, o + k * 4 + 3, none⟩ = some (.int .i64 x3) ∧ Below wr.heap.size wr W')
           (first | exact ⟨q0, p0, p1, p2, p3, hbX0⟩ | exact keep_v (by assumption) hbX)
           (first
             | (go_at_call 70; refine (HC.out _ (by first | assumption | exact held_v (by assumption))).mono ?_; rintro e w' ⟨rfl, hbX⟩)
             | (go_at_call 71; refine (HH.out _ (by first | assumption | exact held_v (by assumption))).mono ?_; rintro e w' ⟨rfl, hbX⟩)
             | fail)
         rename_i hh
         have hZ := held_v hh
         clear hh
         go_wp2_with fail
         go_meet
         exact ⟨by first | rfl | simp, hZ⟩
       case rest =>
         obtain ⟨rfl, hbc⟩ := hcut
         cases v
         · have Hr : Hid (goodL [] xs = goodL (xs.take (k + 1)) (xs.drop (k + 1))) := hid (by rw [hG.out, Hstep.out, hsy]; simp only; rw [← Hv.out]; rfl)
           have hbb := hb.trans (hbc.mono (by omega))
           clear hbc hb Hstep hG
           go_wp2_with fail
           go_roundw
           · exact ⟨k + 1, by go_num, by omega, Hr, hbb⟩
           · simp [intOf]; omega
         · have Hr : Hid (validO xs = false) := hid (by unfold validO; rw [hG.out, Hstep.out, hsy]; simp only; rw [← Hv.out]; simp)
           go_wp2_with fail
           go_ret
           exact ⟨ret_bool Hr.out.symm, (hb0.trans (hb.mono (by omega))).trans (hbc.mono (by omega))⟩
   · obtain rfl : k = n := by omega
     have Hr : Hid (goodL [] xs = true) := hid (by rw [hG.out, List.drop_eq_nil_of_le (by have := Hl.out; omega)]; rfl)
     have HV : Hid (validO xs = decide ((k : Int) ≤ 65536)) := hid (by
       unfold validO
       rw [Hr.out, Hl.out, Bool.and_true]
       by_cases q : k ≤ 65536
       · rw [decide_eq_true q, decide_eq_true (by omega)]
       · rw [decide_eq_false q, decide_eq_false (by omega)])
     go_wp2_with fail
     go_ret
     exact ⟨ret_bool HV.out.symm, hb0.trans (hb.mono (by omega))⟩
end Go.Proofs.YtjobmkodgodloaaGreatDoor.Obj

namespace Go.Proofs.YtjobmkodgodloaaGreatDoor.Obj
open Go.RowKit Go.Proofs Go.Proofs.YtjobmkodgodloaaGreatDoor.Byt
open Go.Proofs.YtjobmkodgodloaaGreatDoor.Sls (Oth)

theorem Own.row (w : World) (K n : Nat) (l : List UInt8) (cs : Array Value) (h : cs = (enc l).toArray) (hl : l.length = n) (hK : K ≤ w.heap.size) (hn : n ≤ 1000000) :
   Byt.Own (w.alloc (.cells cs 5)) K (.slice (some ⟨w.heap.size, 0, none⟩) n n) n l := by
 subst h
 refine ⟨hl, .inr ⟨w.heap.size, n, _, (0, 0), rfl, hK, heap_alloc_new w _, Nat.le_refl _, by unfold maxLen; omega, by simp [enc_length, hl], ?_, fun j hj => by simp⟩⟩
 rw [List.take_of_length_le (by simp [enc_length, hl])]

set_option maxRecDepth 100000 in
theorem rword_any (w : World) (z : Nat) (hz : z < 9223372036854775808) :
   Calls Tryz.prog 47 #[.int .i64 (z : Int)] w fun e w' => ∃ A, e = .returned (.slice A 4 4) ∧ Byt.Own w' w.heap.size (.slice A 4 4) 4 (w4 z) ∧ Below w.heap.size w w' := by
 have he : (#[.int .u8 ((z : Int) / 16777216 % 256), .int .u8 ((z : Int) / 65536 % 256), .int .u8 ((z : Int) / 256 % 256), .int .u8 ((z : Int) % 256)] : Array Value) = (enc (w4 z)).toArray := by
   simp [enc, w4, UInt8.toNat_ofNat']
 have ho := Own.row w w.heap.size 4 (w4 z) _ he rfl (Nat.le_refl _) (by omega)
 have hb0 := (Below.refl w.heap.size w).alloc (Nat.le_refl _) (.cells #[.int .u8 ((z : Int) / 16777216 % 256), .int .u8 ((z : Int) / 65536 % 256), .int .u8 ((z : Int) / 256 % 256), .int .u8 ((z : Int) % 256)] 5)
 clear he
 go_enter Tryz.func47, Tryz.ntmps47
 go_wp2_with fail
 go_ret
 exact ⟨_, rfl, ho, hb0⟩

theorem n4_four (l : List UInt8) (h : 4 ≤ l.length) : ∃ a b c d r, l = a :: b :: c :: d :: r ∧ n4 l = ((a.toNat * 256 + b.toNat) * 256 + c.toNat) * 256 + d.toNat := by
 match l, h with
 | a :: b :: c :: d :: r, _ => exact ⟨a, b, c, d, r, rfl, by simp [n4]⟩

set_option maxRecDepth 100000 in
set_option maxHeartbeats 1000000 in
theorem rnumber_any (w : World) (K : Nat) (A : Option Addr) (n c : Nat) (l : List UInt8) (hr : Byt.Rd w K A n l) (h4 : 4 ≤ n) :
   Calls Tryz.prog 62 #[.slice A n c] w fun e w' => e = .returned (.int .i64 (n4 l : Int)) ∧ ∃ m, w' = w.drewN m := by
 have hl := hr.1
 obtain ⟨a, b, u, d, r, rfl, hn⟩ := n4_four l (by omega)
 obtain ⟨b0, o0, rfl, _, p0⟩ := hr.2 0 (by simp)
 obtain ⟨b1, o1, e1, _, p1⟩ := hr.2 1 (by simp)
 obtain ⟨b2, o2, e2, _, p2⟩ := hr.2 2 (by simp)
 obtain ⟨b3, o3, e3, _, p3⟩ := hr.2 3 (by simp)
 injection e1 with e1; injection e1 with e11 e12; subst e11 e12
 injection e2 with e2; injection e2 with e21 e22; subst e21 e22
 injection e3 with e3; injection e3 with e31 e32; subst e31 e32
 simp only [List.getElem_cons_zero, List.getElem_cons_succ, Nat.add_zero] at p0 p1 p2 p3
 have ha := a.toNat_lt
 have hb := b.toNat_lt
 have hu := u.toNat_lt
 have hd := d.toNat_lt
 have Hn : Hid ((n4 (a :: b :: u :: d :: r) : Int) = (((a.toNat : Int) * 256 + (b.toNat : Int)) * 256 + (u.toNat : Int)) * 256 + (d.toNat : Int)) := hid (by rw [hn]; simp)
 have i0 : (0 : Int) < (n : Int) := by omega
 have i1 : (1 : Int) < (n : Int) := by omega
 have i2 : (2 : Int) < (n : Int) := by omega
 have i3 : (3 : Int) < (n : Int) := by omega
 clear hr hl hn
 go_enter Tryz.func62, Tryz.ntmps62
 go_wp2_with fail
 go_quiet (fail)
 go_wp2_with fail
 go_ret
 exact ⟨ret_int Hn.out.symm, nq, rfl⟩

def Sy.eq (x y : Sy) : Bool := (x.name.toList == y.name.toList) && ((x.bind == y.bind) && ((x.size == y.size) && (x.align == y.align)))
theorem Sy.eq_iff {x y : Sy} : x.eq y = true ↔ x = y := by
 unfold Sy.eq
 rw [Bool.and_eq_true, Bool.and_eq_true, Bool.and_eq_true, beq_iff_eq, beq_iff_eq, beq_iff_eq, beq_iff_eq, str_eq]
 constructor
 · rintro ⟨h1, h2, h3, h4⟩
   cases x; cases y
   simp only at h1 h2 h3 h4
   subst h1 h2 h3 h4
   rfl
 · rintro rfl
   exact ⟨rfl, rfl, rfl, rfl⟩
end Go.Proofs.YtjobmkodgodloaaGreatDoor.Obj

namespace Go.Proofs.YtjobmkodgodloaaGreatDoor.Byt
open Go.RowKit Go.Proofs
open Go.Proofs.YtjobmkodgodloaaGreatDoor.Sls (Oth Oth.refl Oth.new Oth.put Oth.alloc Oth.trans)

theorem run_appr (w : World) (K : Nat) (ty : TypeId) (v : Value) (n : Nat) (l : List UInt8) (hown : Own w K v n l) (hK : K ≤ w.heap.size) (A : Option Addr) (k c B : Nat) (src : List UInt8) (hr : Rd w B A k src) (hsz : n + k ≤ 140737488355328) :
   ∃ v' w', (Builtin.append_ #[22, 22] ty #[v, .slice A k c]).run Tryz.prog w = .ok v' w' ∧ Own w' K v' (n + k) (l ++ src) ∧ Below K w w' ∧ Oth 5 w w' := by
 rcases A with _ | ad
 · have hk : k = 0 := by
     rcases Nat.eq_zero_or_pos k with h0 | h0
     · exact h0
     · obtain ⟨b, o', e, _⟩ := hr.2 0 (by have := hr.1; omega)
       cases e
   subst hk
   have hn : src = [] := List.eq_nil_of_length_eq_zero hr.1
   subst hn
   obtain ⟨i, hi, hz0, hz1, hz2⟩ := info_parts infoB
   have ht := Tryz.underlying22
   refine ⟨v, w, ?_, by simpa using hown, Below.refl _ _, Oth.refl _ _⟩
   rcases hown.2 with ⟨rfl, rfl⟩ | ⟨g, cap, cur, m, rfl, _, _, hnc, _⟩
   · simp [Builtin.append_, run_underlying ht, sizeOf, typeInfo, hi, Builtin.lenOf, Builtin.firstCells]
   · simp [Builtin.append_, run_underlying ht, sizeOf, typeInfo, hi, Builtin.lenOf, Builtin.firstCells, hnc, storeCells]
 · refine run_app2 w K ty v n l hown hK ad k c src hr.1 (fun j u hj => ?_) hsz
   unfold enc at hj
   rw [List.getElem?_map] at hj
   rcases hx : src[j]? with _ | y
   · rw [hx] at hj; cases hj
   · rw [hx] at hj
     obtain ⟨hlt, rfl⟩ := List.getElem?_eq_some_iff.1 hx
     obtain ⟨b, o', e, _, hc⟩ := hr.2 j hlt
     injection e with e
     subst e
     have ha : (⟨b, o', none⟩ : Addr).add j = ⟨b, o' + j, none⟩ := by unfold Addr.add; split <;> simp_all
     rw [ha, hc]
     exact hj
theorem step_app2 {ops : Array Oper} {o : Oper} {a : Act} {C : Act → World → Prop} {Q : Exit → Act → World → Prop} {E : Prop} (w : World) (K : Nat) (v : Value) (n : Nat) (l : List UInt8)
   (hown : Own w K v n l) (hK : K ≤ w.heap.size) (A : Option Addr) (k c B : Nat) (src : List UInt8) (hr : Rd w B A k src) (hsz : n + k ≤ 140737488355328)
   (hgd : o.guard = none) (s x : Operand) (ho : o.op = .call { callee := .builtin .append, args := #[s, x], argTypes := #[22, 22] }) (hs : a.eval s = v) (hx : a.eval x = .slice A k c)
   (h : ∀ v' w', Own w' K v' (n + k) (l ++ src) → Below K w w' → Oth 5 w w' → C (a.put o.dst v') w') :
   if Region.wanted o (yielded ops a.tmps) = true then Oper.wp Tryz.prog o a w C Q else E := by
 have hw : Region.wanted o (yielded ops a.tmps) = true := by simp [Region.wanted, hgd]
 rw [if_pos hw]
 obtain ⟨v', w', hrun, r1, r2, r3⟩ := run_appr w K o.type v n l hown hK A k c B src hr hsz
 unfold Oper.wp execOp
 simp only [ho, resolve, invoke, builtin, Sem.run_bind, Sem.run_pure, Result.andThen_ok, List.map_toArray, List.map_cons, List.map_nil, hs, hx, hrun]
 exact h v' w' r1 r2 r3
theorem step_apps2 {ops : Array Oper} {o : Oper} {a : Act} {C : Act → World → Prop} {Q : Exit → Act → World → Prop} {E : Prop} (w : World) (K : Nat) (v : Value) (n : Nat) (l : List UInt8)
   (hown : Own w K v n l) (hK : K ≤ w.heap.size) (src : ByteArray) (hsz : n + src.size ≤ 140737488355328)
   (hgd : o.guard = none) (s x : Operand) (ho : o.op = .call { callee := .builtin .append, args := #[s, x], argTypes := #[22, 9] }) (hs : a.eval s = v) (hx : a.eval x = .string src)
   (h : ∀ v' w', Own w' K v' (n + src.size) (l ++ src.data.toList) → Below K w w' → Oth 5 w w' → C (a.put o.dst v') w') :
   if Region.wanted o (yielded ops a.tmps) = true then Oper.wp Tryz.prog o a w C Q else E := by
 have hw : Region.wanted o (yielded ops a.tmps) = true := by simp [Region.wanted, hgd]
 rw [if_pos hw]
 obtain ⟨v', w', hrun, r1, r2, r3⟩ := run_apps2 w K o.type v n l hown hK src hsz
 unfold Oper.wp execOp
 simp only [ho, resolve, invoke, builtin, Sem.run_bind, Sem.run_pure, Result.andThen_ok, List.map_toArray, List.map_cons, List.map_nil, hs, hx, hrun]
 exact h v' w' r1 r2 r3
end Go.Proofs.YtjobmkodgodloaaGreatDoor.Byt

namespace Go.Proofs.YtjobmkodgodloaaGreatDoor.Obj
open Go.RowKit Go.Proofs Go.Proofs.YtjobmkodgodloaaGreatDoor.Byt
open Go.Proofs.YtjobmkodgodloaaGreatDoor.Sls (Oth)

set_option linter.unusedSimpArgs false in
set_option maxRecDepth 100000 in
set_option maxHeartbeats 6000000 in
theorem rencode_any (K : Nat) (A B : Option Addr) (n c m d : Nat) (xs : List Sy) (body : List UInt8) (w : World) (h : RdS w K A n xs) (hB : Byt.Rd w K B m body) (hK : K ≤ w.heap.size) (hm : m ≤ 100000000) (hnn : n ≤ 140737488355328) (hnc : n ≤ c) :
   Calls Tryz.prog 28 #[.agg #[.slice A n c, .slice B m d]] w (Encodes xs body w) := by
 have Hl := hid h.1
 have hb0 := (Below.refl w.heap.size w).alloc (Nat.le_refl _) (.cells #[.slice A n c, .slice B m d] 72)
 have hrow0 := heap_alloc_new w (.cells #[.slice A n c, .slice B m d] 72)
 have hsz0 : (w.alloc (.cells #[.slice A n c, .slice B m d] 72)).heap.size = w.heap.size + 1 := World.size_alloc _ _
 have Hv := hid (rvalid_any K A B n c m d xs (w.alloc (.cells #[.slice A n c, .slice B m d] 72)) (h.below (hb0.mono hK)) (by omega) hnn hnc)
 have h0 := h.below (hb0.mono hK)
 have hB0 := hB.below (hb0.mono hK)
 have c0 := cell_of_row _ w.heap.size 0 _ _ _ hrow0
 have c1 := cell_of_row _ w.heap.size 1 _ _ _ hrow0
 have kc := fun (w : World) (C : Array Value) (n c : Nat) => Lib.run_convert_bytes_const (P := Tryz.prog) w 22 5 C n c Tryz.underlying22 Tryz.underlying5
 go_enter Tryz.func28, Tryz.ntmps28
 go_wp2_with fail
 refine Hv.out.mono ?_
 rintro e w1 ⟨rfl, hb1⟩
 generalize w.alloc (.cells #[.slice A n c, .slice B m d] 72) = w0 at *
 have hrow1 := (hb1.block w.heap.size (by omega)).trans hrow0
 have d0 := cell_of_row _ w.heap.size 0 _ _ _ hrow1
 have d1 := cell_of_row _ w.heap.size 1 _ _ _ hrow1
 have hsz1 := hb1.size
 rw [hsz0] at hb1 hsz1
 have h1 := h0.below (hb1.mono (by omega))
 have hB1 := hB0.below (hb1.mono (by omega))
 clear c0 c1 Hv h h0 hB hB0 hrow0
 cases hv : validO xs
 · have Hv := hid hv
   go_wp2_with fail
   exact bodyPost_ret (v := .tuple #[.slice none 0 0, .int .i64 12]) (by simp [results, Tryz.results28, go_sem]) rfl ⟨hb0.trans (hb1.mono (by omega)), .inr ⟨Hv.out, rfl⟩⟩
 · have Hv := hid hv
   have hg : goodL [] xs = true ∧ xs.length ≤ 65536 := by unfold validO at hv; rw [Bool.and_eq_true, decide_eq_true_eq] at hv; exact ⟨hv.2, hv.1⟩
   have Hg := hid (goodL_all hg.1)
   have hn : n ≤ 65536 := by have := Hl.out; have := hg.2; omega
   clear hv hg
   have d0' : w1.cell? ⟨w.heap.size, 0, none⟩ = some (.slice A n c) := d0
   have q0 := Lib.cell?_alloc_some (.cells #[.int .u8 79, .int .u8 66, .int .u8 74, .int .u8 49] 5 (4, 5)) d0'
   have hb2 := (Below.refl (w.heap.size + 1) w1).alloc hsz1 (.cells #[.int .u8 79, .int .u8 66, .int .u8 74, .int .u8 49] 5 (4, 5))
   have ho := Own.const w1 (w.heap.size + 1) 4 magic #[.int .u8 79, .int .u8 66, .int .u8 74, .int .u8 49] rfl rfl hsz1 (by omega)
   clear d0'
   go_wp2_with fail
   refine (rword_any _ n (by omega)).mono ?_
   rintro e w2 ⟨A2', rfl, ho2, hb3⟩
   obtain ⟨A2, c2', e2, hrd2, _⟩ := ho2.reads
   injection e2 with e21 _ e23
   subst e21 e23
   have hsz2 := hb3.size
   rw [World.size_alloc] at hsz2
   have hoM := ho.below hb3
   have hb12 := hb2.trans (hb3.mono (by simp; omega))
   have hrow2 := (hb12.block w.heap.size (by omega)).trans hrow1
   have h2 := h1.below (hb12.mono (by omega))
   have hB2 := hB1.below (hb12.mono (by omega))
   have hb02 := hb1.trans hb12
   clear q0 d0 d1 hb2 hb3 ho hrow1 h1 hB1 hb1 hb12 ho2
   go_wp2_with (at_builtin; go_must (refine wpList_app2 w2 (w.heap.size + 1) _ 4 magic hoM (by omega) A2' 4 4 _ (w4 n) hrd2 (by omega) rfl (.tmp 11) (.tmp 15) rfl rfl rfl ?_); intro v3 w3 ho3 hb3 ot3; obtain ⟨A3, c3, rfl, _⟩ := ho3.reads)
   have e0 := cell_of_row _ w.heap.size 0 _ _ _ hrow2
   have hrow3 := (hb3.block w.heap.size (by omega)).trans hrow2
   have h3 := h2.below (hb3.mono (by omega))
   have hB3 := hB2.below (hb3.mono (by omega))
   have hb03 := hb02.trans hb3
   clear e0 hrow2 h2 hB2 hb02 hoM hrd2 ot3 hb3
   go_loopw [4, 5] (fun v i W => ∃ (k : Nat) (A' : Option Addr) (c' : Nat), i = .int .i64 (k : Int) ∧ v = .slice A' (8 + (encL (xs.take k)).length) c' ∧ k ≤ n ∧ Byt.Own W (w.heap.size + 1) (.slice A' (8 + (encL (xs.take k)).length) c') (8 + (encL (xs.take k)).length) (magic ++ w4 n ++ encL (xs.take k)) ∧ Below (w.heap.size + 1) w3 W) (fun _ i _ => n - (intOf i).toNat)
   case atStart => exact ⟨0, A3, c3, rfl, rfl, by omega, by simpa [encL] using ho3, Below.refl _ _⟩
   case round =>
     obtain ⟨k, A', c', rfl, rfl, hk, hO, hb⟩ := hrel
     have hwr : w.heap.size + 1 ≤ wr.heap.size := by have := hb.size; have := hb03.size; omega
     have hrowr := (hb.block w.heap.size (by have := hb03.size; omega)).trans hrow3
     have e0 := cell_of_row _ w.heap.size 0 _ _ _ hrowr
     have e1 := cell_of_row _ w.heap.size 1 _ _ _ hrowr
     by_cases hlt : k < n
     · have hkl : k < xs.length := by have := Hl.out; omega
       have hki : (k : Int) < (n : Int) := by omega
       obtain ⟨⟨b, o, rfl, hbK, hcell⟩, hsz⟩ := h3.2 k hkl
       have hcl := hcell.below hb (by omega)
       have Htake : Hid (encL (xs.take (k + 1)) = encL (xs.take k) ++ encS xs[k]) := hid (by rw [List.take_add_one, List.getElem?_eq_getElem hkl, encL_append]; simp [encL])
       have hok := hid (Hg.out _ (List.getElem_mem hkl))
       have Hlen : Hid ((encL (xs.take k)).length ≤ 265 * k) := hid (Nat.le_trans (encL_len _ fun y hy => Hg.out y (List.mem_of_mem_take hy)) (by rw [List.length_take]; exact Nat.mul_le_mul_left _ (by omega)))
       have hb1 : b < wr.heap.size := by omega
       clear hcell e1
       generalize xs[k] = x at *
       have hrng := hok.out
       unfold symOk at hrng
       rw [Bool.and_eq_true] at hrng
       obtain ⟨s1, s2⟩ := nameOk_range hrng.1
       obtain ⟨r1, r2, r3, r4, r5, r6⟩ := bindOk_range hrng.2
       obtain ⟨x0, x1, x2, x3⟩ := x
       simp only at s1 s2 r1 r2 r3 r4 r5 r6
       obtain ⟨x1, rfl⟩ := Int.eq_ofNat_of_zero_le (show 0 ≤ x1 by omega)
       obtain ⟨x2, rfl⟩ := Int.eq_ofNat_of_zero_le r3
       obtain ⟨x3, rfl⟩ := Int.eq_ofNat_of_zero_le r5
       obtain ⟨p0, p1, p2, p3⟩ := hcl
       have hX1 : Hid ((x1 : Int) = ((UInt8.ofNat x1).toNat : Int)) := hid (by rw [UInt8.toNat_ofNat']; omega)
       have hX2 : Hid ((x0.size : Int) = ((UInt8.ofNat x0.size).toNat : Int)) := hid (by rw [UInt8.toNat_ofNat']; omega)
       have h2l : x2 < 9223372036854775808 := by omega
       have h3l : x3 < 9223372036854775808 := by omega
       have hrow4 := heap_alloc_new wr (.cells #[.string x0, .int .i64 (x1 : Int), .int .i64 (x2 : Int), .int .i64 (x3 : Int)] 69)
       have hO4 := hO.alloc (.cells #[.string x0, .int .i64 (x1 : Int), .int .i64 (x2 : Int), .int .i64 (x3 : Int)] 69)
       have hb4 := hb.alloc (Nat.le_trans hwr (Nat.le_refl _)) (.cells #[.string x0, .int .i64 (x1 : Int), .int .i64 (x2 : Int), .int .i64 (x3 : Int)] 69)
       have hs4 : (wr.alloc (.cells #[.string x0, .int .i64 (x1 : Int), .int .i64 (x2 : Int), .int .i64 (x3 : Int)] 69)).heap.size = wr.heap.size + 1 := World.size_alloc _ _
       clear r1 r3 r4 r5 r6 hrng hO hb
       generalize hL : 8 + (encL (xs.take k)).length = L at *
       have HL := hid hL
       have hLb : L ≤ 17400000 := by have := Hlen.out; omega
       clear hL
       go_upto_region 8 with fail
       have hlt0 : wr.heap.size < (wr.alloc (.cells #[.string x0, .int .i64 (x1 : Int), .int .i64 (x2 : Int), .int .i64 (x3 : Int)] 69)).heap.size := by omega
       generalize wr.alloc (.cells #[.string x0, .int .i64 (x1 : Int), .int .i64 (x2 : Int), .int .i64 (x3 : Int)] 69) = w5 at *
       have m1 := cell_of_row _ wr.heap.size 1 _ _ _ hrow4
       have hK5 : w.heap.size + 1 ≤ w5.heap.size := by omega
       have HS4 := hid hs4
       clear hs4
       go_wp2_with (at_builtin; go_must (refine wpList_push2 w5 (w.heap.size + 1) (.slice A' L c') L _ (UInt8.ofNat x1) _ hX1.out hO4 hK5 (by omega) rfl (.tmp 29) (.tmp 33) rfl rfl rfl ?_); intro v6 w6 hO6 hb6 ho6; obtain ⟨A6, c6, rfl, _⟩ := hO6.reads)
       have hrow6 := (ho6 _ _ hrow4 (fun _ _ e => by simp at e))
       clear m1 hrow4 hO4 e0
       refine Ord.Till.begin (fun W' => W'.cell? ⟨wr.heap.size, 0, none⟩ = some (.string x0) ∧ W'.cell? ⟨wr.heap.size, 1, none⟩ = some (.int .i64 (x1 : Int)) ∧ W'.cell? ⟨wr.heap.size, 2, none⟩ = some (.int .i64 (x2 : Int)) ∧ W'.cell? ⟨wr.heap.size, 3, none⟩ = some (.int .i64 (x3 : Int))) 10 (by kernel_rfl) ?_
       have hS0 : (fun W' => W'.cell? ⟨wr.heap.size, 0, none⟩ = some (.string x0) ∧ W'.cell? ⟨wr.heap.size, 1, none⟩ = some (.int .i64 (x1 : Int)) ∧ W'.cell? ⟨wr.heap.size, 2, none⟩ = some (.int .i64 (x2 : Int)) ∧ W'.cell? ⟨wr.heap.size, 3, none⟩ = some (.int .i64 (x3 : Int))) w6.drew := ⟨cell_of_row _ _ 0 _ _ _ hrow6, cell_of_row _ _ 1 _ _ _ hrow6, cell_of_row _ _ 2 _ _ _ hrow6, cell_of_row _ _ 3 _ _ _ hrow6⟩
       refine Ord.Till.take 0 (oi := _) (x := ?_) rfl (by kernel_rfl) (by kernel_rfl) (by kernel_rfl) (by kernel_rfl) (fun _ _ _ h => h) (by rfl) ?_ hS0 ?_
       rotate_left 1
       · intro v hv; obtain ⟨z1, z2, z3, z4⟩ := hv; go_simp; first | done | with_reducible rfl
       try simp only [Act.put, List.setIfInBounds_toArray, List.set_cons_zero, List.set_cons_succ]
       refine Ord.Till.take 1 (oi := _) (x := ?_) rfl (by kernel_rfl) (by kernel_rfl) (by kernel_rfl) (by kernel_rfl) (fun _ _ _ h => h) (by rfl) ?_ hS0 ?_
       rotate_left 1
       · intro v hv; obtain ⟨z1, z2, z3, z4⟩ := hv; go_simp; first | done | with_reducible rfl
       try simp only [Act.put, List.setIfInBounds_toArray, List.set_cons_zero, List.set_cons_succ]
       refine Ord.Till.take 2 (oi := _) (x := ?_) rfl (by kernel_rfl) (by kernel_rfl) (by kernel_rfl) (by kernel_rfl) (fun _ _ _ h => h) (by rfl) ?_ hS0 ?_
       rotate_left 1
       · intro v hv; obtain ⟨z1, z2, z3, z4⟩ := hv; go_simp; first | done | with_reducible rfl
       try simp only [Act.put, List.setIfInBounds_toArray, List.set_cons_zero, List.set_cons_succ]
       refine Ord.Till.take 5 (oi := _) (x := ?_) rfl (by kernel_rfl) (by kernel_rfl) (by kernel_rfl) (by kernel_rfl) (fun _ _ _ h => h) (by rfl) ?_ hS0 ?_
       rotate_left 1
       · intro v hv; obtain ⟨z1, z2, z3, z4⟩ := hv; go_simp; first | done | with_reducible rfl
       try simp only [Act.put, List.setIfInBounds_toArray, List.set_cons_zero, List.set_cons_succ]
       refine Ord.Till.take 6 (oi := _) (x := ?_) rfl (by kernel_rfl) (by kernel_rfl) (by kernel_rfl) (by kernel_rfl) (fun _ _ _ h => h) (by rfl) ?_ hS0 ?_
       rotate_left 1
       · intro v hv; obtain ⟨z1, z2, z3, z4⟩ := hv; go_simp; first | done | with_reducible rfl
       try simp only [Act.put, List.setIfInBounds_toArray, List.set_cons_zero, List.set_cons_succ]
       refine Ord.Till.step 3 (by kernel_rfl) rfl (fun C hC => ?_)
       go_simp
       go_at_call 47
       refine (rword_any _ x2 h2l).mono ?_
       rintro e w7 ⟨A7, rfl, ho7, hb7⟩
       have hrow7 := (hb7.block wr.heap.size (by show wr.heap.size < w6.heap.size; have := hb6.size; omega)).trans hrow6
       have hO7 := (Byt.Own.below (w := w6.drew) hO6 hb7)
       have hq7 := hb7.size
       have hz7 : w6.heap.size ≤ w7.heap.size := hq7
       have hS7 : (fun W' => W'.cell? ⟨wr.heap.size, 0, none⟩ = some (.string x0) ∧ W'.cell? ⟨wr.heap.size, 1, none⟩ = some (.int .i64 (x1 : Int)) ∧ W'.cell? ⟨wr.heap.size, 2, none⟩ = some (.int .i64 (x2 : Int)) ∧ W'.cell? ⟨wr.heap.size, 3, none⟩ = some (.int .i64 (x3 : Int))) w7 := ⟨cell_of_row _ _ 0 _ _ _ hrow7, cell_of_row _ _ 1 _ _ _ hrow7, cell_of_row _ _ 2 _ _ _ hrow7, cell_of_row _ _ 3 _ _ _ hrow7⟩
       refine hC.out _ _ (fun _ => hS7) ?_
       clear hC C
       try simp only [Act.put, List.setIfInBounds_toArray, List.set_cons_zero, List.set_cons_succ]
       obtain ⟨_, c7, e7, hrd7, _⟩ := ho7.reads
       injection e7 with e71 _ e73
       subst e71 e73
       refine Ord.Till.step 4 (by kernel_rfl) rfl (fun C hC => ?_)
       refine step_app2 w7 (w.heap.size + 1) (.slice A6 (L + 1) c6) (L + 1) _ hO7 (by have := hb6.size; omega) _ 4 4 _ (w4 x2) hrd7 (by omega) (by rfl) _ _ (by rfl) (by rfl) (by rfl) ?_
       intro v8 w8 hO8 hb8 ho8
       obtain ⟨A8, c8, rfl, _⟩ := hO8.reads
       have hrow8 := (ho8 _ _ hrow7 (fun _ _ e => by simp at e))
       have hz8 := hb8.size
       have hS8 : (fun W' => W'.cell? ⟨wr.heap.size, 0, none⟩ = some (.string x0) ∧ W'.cell? ⟨wr.heap.size, 1, none⟩ = some (.int .i64 (x1 : Int)) ∧ W'.cell? ⟨wr.heap.size, 2, none⟩ = some (.int .i64 (x2 : Int)) ∧ W'.cell? ⟨wr.heap.size, 3, none⟩ = some (.int .i64 (x3 : Int))) w8 := ⟨cell_of_row _ _ 0 _ _ _ hrow8, cell_of_row _ _ 1 _ _ _ hrow8, cell_of_row _ _ 2 _ _ _ hrow8, cell_of_row _ _ 3 _ _ _ hrow8⟩
       refine hC.out _ _ (fun _ => hS8) ?_
       clear hC C
       try simp only [Act.put, List.setIfInBounds_toArray, List.set_cons_zero, List.set_cons_succ]
       refine Ord.Till.step 7 (by kernel_rfl) rfl (fun C hC => ?_)
       go_simp
       go_at_call 47
       refine (rword_any _ x3 h3l).mono ?_
       rintro e w9 ⟨A9, rfl, ho9, hb9⟩
       have hrow9 := (hb9.block wr.heap.size (by have := hb6.size; omega)).trans hrow8
       have hO9 := hO8.below hb9
       have hz9 := hb9.size
       have hS9 : (fun W' => W'.cell? ⟨wr.heap.size, 0, none⟩ = some (.string x0) ∧ W'.cell? ⟨wr.heap.size, 1, none⟩ = some (.int .i64 (x1 : Int)) ∧ W'.cell? ⟨wr.heap.size, 2, none⟩ = some (.int .i64 (x2 : Int)) ∧ W'.cell? ⟨wr.heap.size, 3, none⟩ = some (.int .i64 (x3 : Int))) w9 := ⟨cell_of_row _ _ 0 _ _ _ hrow9, cell_of_row _ _ 1 _ _ _ hrow9, cell_of_row _ _ 2 _ _ _ hrow9, cell_of_row _ _ 3 _ _ _ hrow9⟩
       refine hC.out _ _ (fun _ => hS9) ?_
       clear hC C
       try simp only [Act.put, List.setIfInBounds_toArray, List.set_cons_zero, List.set_cons_succ]
       obtain ⟨_, c9, e9, hrd9, _⟩ := ho9.reads
       injection e9 with e91 _ e93
       subst e91 e93
       refine Ord.Till.step 8 (by kernel_rfl) rfl (fun C hC => ?_)
       refine step_app2 w9 (w.heap.size + 1) (.slice A8 (L + 1 + 4) c8) (L + 1 + 4) _ hO9 (by have := hb6.size; omega) _ 4 4 _ (w4 x3) hrd9 (by omega) (by rfl) _ _ (by rfl) (by rfl) (by rfl) ?_
       intro v10 w10 hO10 hb10 ho10
       obtain ⟨A10, c10, rfl, _⟩ := hO10.reads
       have hrow10 := (ho10 _ _ hrow9 (fun _ _ e => by simp at e))
       have hz10 := hb10.size
       have hS10 : (fun W' => W'.cell? ⟨wr.heap.size, 0, none⟩ = some (.string x0) ∧ W'.cell? ⟨wr.heap.size, 1, none⟩ = some (.int .i64 (x1 : Int)) ∧ W'.cell? ⟨wr.heap.size, 2, none⟩ = some (.int .i64 (x2 : Int)) ∧ W'.cell? ⟨wr.heap.size, 3, none⟩ = some (.int .i64 (x3 : Int))) w10 := ⟨cell_of_row _ _ 0 _ _ _ hrow10, cell_of_row _ _ 1 _ _ _ hrow10, cell_of_row _ _ 2 _ _ _ hrow10, cell_of_row _ _ 3 _ _ _ hrow10⟩
       refine hC.out _ _ (fun _ => hS10) ?_
       clear hC C
       try simp only [Act.put, List.setIfInBounds_toArray, List.set_cons_zero, List.set_cons_succ]
       refine Ord.Till.take 9 (oi := _) (x := ?_) rfl (by kernel_rfl) (by kernel_rfl) (by kernel_rfl) (by kernel_rfl) (fun _ _ _ h => h) (by rfl) ?_ hS10 ?_
       rotate_left 1
       · intro v hv; obtain ⟨z1, z2, z3, z4⟩ := hv; go_simp; first | done | with_reducible rfl
       try simp only [Act.put, List.setIfInBounds_toArray, List.set_cons_zero, List.set_cons_succ]
       refine Ord.Till.done (by kernel_rfl) ?_ _
       have hb610 : Below (w.heap.size + 1) w6 w10 := ((((Below.refl (w.heap.size + 1) w6).drew.trans (hb7.mono (by show w.heap.size + 1 ≤ w6.heap.size; have := hb6.size; omega))).trans hb8).trans (hb9.mono (by have := hb6.size; omega))).trans hb10
       clear hS0 hS7 hS8 hS9 hS10 hrow6 hrow7 hrow8 hrow9 hO6 hO7 hO8 hO9 hb7 hb8 hb9 hb10 ho7 ho8 ho9 ho10 hrd7 hrd9
       have hz610 := hb610.size
       have hz6 := hb6.size
       go_wp2_with fail
       refine Ord.Till.begin (fun W' => W'.cell? ⟨wr.heap.size, 0, none⟩ = some (.string x0) ∧ W'.cell? ⟨wr.heap.size, 1, none⟩ = some (.int .i64 (x1 : Int)) ∧ W'.cell? ⟨wr.heap.size, 2, none⟩ = some (.int .i64 (x2 : Int)) ∧ W'.cell? ⟨wr.heap.size, 3, none⟩ = some (.int .i64 (x3 : Int))) 11 (by kernel_rfl) ?_
       have hS0 : (fun W' => W'.cell? ⟨wr.heap.size, 0, none⟩ = some (.string x0) ∧ W'.cell? ⟨wr.heap.size, 1, none⟩ = some (.int .i64 (x1 : Int)) ∧ W'.cell? ⟨wr.heap.size, 2, none⟩ = some (.int .i64 (x2 : Int)) ∧ W'.cell? ⟨wr.heap.size, 3, none⟩ = some (.int .i64 (x3 : Int))) w10.drew := ⟨cell_of_row _ _ 0 _ _ _ hrow10, cell_of_row _ _ 1 _ _ _ hrow10, cell_of_row _ _ 2 _ _ _ hrow10, cell_of_row _ _ 3 _ _ _ hrow10⟩
       refine Ord.Till.take 0 (oi := _) (x := ?_) rfl (by kernel_rfl) (by kernel_rfl) (by kernel_rfl) (by kernel_rfl) (fun _ _ _ h => h) (by rfl) ?_ hS0 ?_
       rotate_left 1
       · intro v hv; obtain ⟨z1, z2, z3, z4⟩ := hv; go_simp; first | done | with_reducible rfl
       try simp only [Act.put, List.setIfInBounds_toArray, List.set_cons_zero, List.set_cons_succ]
       refine Ord.Till.take 1 (oi := _) (x := ?_) rfl (by kernel_rfl) (by kernel_rfl) (by kernel_rfl) (by kernel_rfl) (fun _ _ _ h => h) (by rfl) ?_ hS0 ?_
       rotate_left 1
       · intro v hv; obtain ⟨z1, z2, z3, z4⟩ := hv; go_simp; first | done | with_reducible rfl
       try simp only [Act.put, List.setIfInBounds_toArray, List.set_cons_zero, List.set_cons_succ]
       refine Ord.Till.take 2 (oi := _) (x := ?_) rfl (by kernel_rfl) (by kernel_rfl) (by kernel_rfl) (by kernel_rfl) (fun _ _ _ h => h) (by rfl) ?_ hS0 ?_
       rotate_left 1
       · intro v hv; obtain ⟨z1, z2, z3, z4⟩ := hv; go_simp; first | done | with_reducible rfl
       try simp only [Act.put, List.setIfInBounds_toArray, List.set_cons_zero, List.set_cons_succ]
       refine Ord.Till.take 3 (oi := _) (x := ?_) rfl (by kernel_rfl) (by kernel_rfl) (by kernel_rfl) (by kernel_rfl) (fun _ _ _ h => h) (by rfl) ?_ hS0 ?_
       rotate_left 1
       · intro v hv; obtain ⟨z1, z2, z3, z4⟩ := hv; go_simp; first | done | with_reducible rfl
       try simp only [Act.put, List.setIfInBounds_toArray, List.set_cons_zero, List.set_cons_succ]
       refine Ord.Till.take 4 (oi := _) (x := ?_) rfl (by kernel_rfl) (by kernel_rfl) (by kernel_rfl) (by kernel_rfl) (fun _ _ _ h => h) (by rfl) ?_ hS0 ?_
       rotate_left 1
       · intro v hv; obtain ⟨z1, z2, z3, z4⟩ := hv; go_simp; first | done | with_reducible rfl
       try simp only [Act.put, List.setIfInBounds_toArray, List.set_cons_zero, List.set_cons_succ]
       refine Ord.Till.take 7 (oi := _) (x := ?_) rfl (by kernel_rfl) (by kernel_rfl) (by kernel_rfl) (by kernel_rfl) (fun _ _ _ h => h) (by rfl) ?_ hS0 ?_
       rotate_left 1
       · intro v hv; obtain ⟨z1, z2, z3, z4⟩ := hv; go_simp; first | done | with_reducible rfl
       try simp only [Act.put, List.setIfInBounds_toArray, List.set_cons_zero, List.set_cons_succ]
       refine Ord.Till.take 8 (oi := _) (x := ?_) rfl (by kernel_rfl) (by kernel_rfl) (by kernel_rfl) (by kernel_rfl) (fun _ _ _ h => h) (by rfl) ?_ hS0 ?_
       rotate_left 1
       · intro v hv; obtain ⟨z1, z2, z3, z4⟩ := hv; go_simp; first | done | with_reducible rfl
       try simp only [Act.put, List.setIfInBounds_toArray, List.set_cons_zero, List.set_cons_succ]
       have hXw : Hid (IntKind.u8.wrap (x0.size : Int) = ((UInt8.ofNat x0.size).toNat : Int)) := hid (by rw [IntKind.wrap_u8, UInt8.toNat_ofNat']; omega)
       obtain ⟨X, hX⟩ : ∃ X, X = IntKind.u8.wrap (x0.size : Int) := ⟨_, rfl⟩
       have hXe : X = ((UInt8.ofNat x0.size).toNat : Int) := hX.trans hXw.out
       have hrow11 : (w10.alloc (.cells #[.int .u8 X] 5)).drew.heap[wr.heap.size]? = _ := (Below.heap_alloc w10 (.cells #[.int .u8 X] 5) wr.heap.size (by omega)).trans hrow10
       have hO11 : Byt.Own (w10.alloc (.cells #[.int .u8 X] 5)).drew (w.heap.size + 1) _ _ _ := hO10.alloc (.cells #[.int .u8 X] 5)
       have hrd11 : Byt.Rd (w10.alloc (.cells #[.int .u8 X] 5)).drew (w10.heap.size + 1) (some ⟨w10.heap.size, 0, none⟩) 1 [UInt8.ofNat x0.size] := Rd.lit w10 [UInt8.ofNat x0.size] #[.int .u8 X] (by rw [hXe]; rfl) 1 rfl
       have hz11 : (w10.alloc (.cells #[.int .u8 X] 5)).drew.heap.size = w10.heap.size + 1 := World.size_alloc _ _
       have hb1011 : Below (w.heap.size + 1) w10 (w10.alloc (.cells #[.int .u8 X] 5)).drew := ((Below.refl (w.heap.size + 1) w10).alloc (by omega) _).drew
       have hS11 : (fun W' => W'.cell? ⟨wr.heap.size, 0, none⟩ = some (.string x0) ∧ W'.cell? ⟨wr.heap.size, 1, none⟩ = some (.int .i64 (x1 : Int)) ∧ W'.cell? ⟨wr.heap.size, 2, none⟩ = some (.int .i64 (x2 : Int)) ∧ W'.cell? ⟨wr.heap.size, 3, none⟩ = some (.int .i64 (x3 : Int))) (w10.alloc (.cells #[.int .u8 X] 5)).drew := ⟨cell_of_row _ _ 0 _ _ _ hrow11, cell_of_row _ _ 1 _ _ _ hrow11, cell_of_row _ _ 2 _ _ _ hrow11, cell_of_row _ _ 3 _ _ _ hrow11⟩
       have HX := hid hX
       clear hXe hX
       refine Ord.Till.step 5 (by kernel_rfl) rfl (fun C hC => ?_)
       go_simp
       rw [← HX.out]
       refine hC.out _ _ (fun _ => hS11) ?_
       clear hC C
       try simp only [Act.put, List.setIfInBounds_toArray, List.set_cons_zero, List.set_cons_succ]
       refine Ord.Till.step 6 (by kernel_rfl) rfl (fun C hC => ?_)
       refine step_app2 (w10.alloc (.cells #[.int .u8 X] 5)).drew (w.heap.size + 1) (.slice A10 (L + 1 + 4 + 4) c10) (L + 1 + 4 + 4) _ hO11 (by omega) (some ⟨w10.heap.size, 0, none⟩) 1 1 _ [UInt8.ofNat x0.size] hrd11 (by omega) (by rfl) _ _ (by rfl) (by rfl) (by rfl) ?_
       intro v12 w12 hO12 hb12 ho12
       obtain ⟨A12, c12, rfl, _⟩ := hO12.reads
       have hrow12 := (ho12 _ _ hrow11 (fun _ _ e => by simp at e))
       have hz12 := hb12.size
       have hS12 : (fun W' => W'.cell? ⟨wr.heap.size, 0, none⟩ = some (.string x0) ∧ W'.cell? ⟨wr.heap.size, 1, none⟩ = some (.int .i64 (x1 : Int)) ∧ W'.cell? ⟨wr.heap.size, 2, none⟩ = some (.int .i64 (x2 : Int)) ∧ W'.cell? ⟨wr.heap.size, 3, none⟩ = some (.int .i64 (x3 : Int))) w12 := ⟨cell_of_row _ _ 0 _ _ _ hrow12, cell_of_row _ _ 1 _ _ _ hrow12, cell_of_row _ _ 2 _ _ _ hrow12, cell_of_row _ _ 3 _ _ _ hrow12⟩
       refine hC.out _ _ (fun _ => hS12) ?_
       clear hC C
       try simp only [Act.put, List.setIfInBounds_toArray, List.set_cons_zero, List.set_cons_succ]
       refine Ord.Till.step 9 (by kernel_rfl) rfl (fun C hC => ?_)
       refine step_apps2 w12 (w.heap.size + 1) (.slice A12 (L + 1 + 4 + 4 + 1) c12) (L + 1 + 4 + 4 + 1) _ hO12 (by omega) x0 (by omega) (by rfl) _ _ (by rfl) (by rfl) (by rfl) ?_
       intro v13 w13 hO13 hb13 ho13
       obtain ⟨A13, c13, rfl, _⟩ := hO13.reads
       have hrow13 := (ho13 _ _ hrow12 (fun _ _ e => by simp at e))
       have hS13 : (fun W' => W'.cell? ⟨wr.heap.size, 0, none⟩ = some (.string x0) ∧ W'.cell? ⟨wr.heap.size, 1, none⟩ = some (.int .i64 (x1 : Int)) ∧ W'.cell? ⟨wr.heap.size, 2, none⟩ = some (.int .i64 (x2 : Int)) ∧ W'.cell? ⟨wr.heap.size, 3, none⟩ = some (.int .i64 (x3 : Int))) w13 := ⟨cell_of_row _ _ 0 _ _ _ hrow13, cell_of_row _ _ 1 _ _ _ hrow13, cell_of_row _ _ 2 _ _ _ hrow13, cell_of_row _ _ 3 _ _ _ hrow13⟩
       refine hC.out _ _ (fun _ => hS13) ?_
       clear hC C
       try simp only [Act.put, List.setIfInBounds_toArray, List.set_cons_zero, List.set_cons_succ]
       refine Ord.Till.take 10 (oi := _) (x := ?_) rfl (by kernel_rfl) (by kernel_rfl) (by kernel_rfl) (by kernel_rfl) (fun _ _ _ h => h) (by rfl) ?_ hS13 ?_
       rotate_left 1
       · intro v hv; obtain ⟨z1, z2, z3, z4⟩ := hv; go_simp; first | done | with_reducible rfl
       try simp only [Act.put, List.setIfInBounds_toArray, List.set_cons_zero, List.set_cons_succ]
       refine Ord.Till.done (by kernel_rfl) ?_ _
       have hbw := ((((hb4.trans hb6).trans hb610).trans hb1011).trans hb12).trans hb13
       have e3 : L + 1 + 4 + 4 + 1 + x0.size = 8 + (encL (xs.take (k + 1))).length := by rw [Htake.out, List.length_append, encS_length, ← HL.out]; simp only; omega
       have e4 : magic ++ w4 n ++ encL (xs.take k) ++ [UInt8.ofNat x1] ++ w4 x2 ++ w4 x3 ++ [UInt8.ofNat x0.size] ++ x0.data.toList = magic ++ w4 n ++ encL (xs.take (k + 1)) := by rw [Htake.out]; simp [encS]
       rw [e3, e4] at hO13
       have E3 := hid e3
       clear hS0 hS11 hS12 hS13 hrow10 hrow11 hrow12 hrow13 hO10 hO11 hO12 hb4 hb6 hb610 hb1011 hb12 hb13 ho12 ho13 hrd11 e3 e4 hz11
       simp only [E3.out]
       have hbw' := hid hbw
       have hO' := hid hO13
       clear hbw hO13 E3 HS4
       go_wp2_with fail
       go_roundw
       · exact ⟨k + 1, A13, c13, by go_num, rfl, by omega, hO'.out, hbw'.out⟩
       · simp [intOf]; omega
     · obtain rfl : k = n := by omega
       have hall : xs.take k = xs := List.take_of_length_le (by have := Hl.out; omega)
       rw [hall] at hO ⊢
       have hB4 := hB3.below (hb.mono (by omega))
       have hlen : (encL xs).length ≤ 265 * k := by have := encL_len xs Hg.out; have := Hl.out; omega
       have HL := hid hall
       clear hall
       go_wp2_with (at_builtin; go_must (refine wpList_app2 wr (w.heap.size + 1) _ _ _ hO hwr B m d K body hB4 (by omega) rfl (.tmp 54) (.tmp 56) rfl rfl rfl ?_); intro v4 w4' h4 b4 o4)
       refine bodyPost_ret (v := .tuple #[v4, .int .i64 0]) (by simp [results, Tryz.results28, go_sem]) rfl ?_
       refine ⟨((hb0.trans (hb03.mono (by omega))).trans (hb.mono (by omega))).trans (b4.mono (by omega)), .inl ⟨Hv.out, v4, 8 + (encL xs).length + m, rfl, ?_⟩⟩
       have e5 : encO xs body = magic ++ w4 k ++ encL xs ++ body := by unfold encO; rw [Hl.out]; simp
       rw [e5]
       exact h4.more (by omega)
end Go.Proofs.YtjobmkodgodloaaGreatDoor.Obj

namespace Go.Proofs.YtjobmkodgodloaaGreatDoor.Obj
open Go.RowKit Go.Proofs Go.Proofs.YtjobmkodgodloaaGreatDoor.Byt
open Go.Proofs.YtjobmkodgodloaaGreatDoor.Sls (Oth)

def put2 (W : World) (B : Nat) (v0 v1 : Value) : World := (W.setCell ⟨B, 0, none⟩ v0).setCell ⟨B, 1, none⟩ v1
theorem put2_row {W : World} {B : Nat} {a b : Value} {t : TypeId} (h : W.heap[B]? = some (.cells #[a, b] t (0, 0))) (v0 v1 : Value) : (put2 W B v0 v1).heap[B]? = some (.cells #[v0, v1] t (0, 0)) :=
 heap_setCell_same _ B 1 _ _ v1 (heap_setCell_same W B 0 _ _ v0 h)
theorem put2_below {w W : World} {K B : Nat} (h : Below K w W) (hB : K ≤ B) (v0 v1 : Value) : Below K w (put2 W B v0 v1) :=
 (h.setCell (p := ⟨B, 0, none⟩) hB v0).setCell (p := ⟨B, 1, none⟩) hB v1

set_option maxRecDepth 100000 in
set_option maxHeartbeats 1000000 in
theorem rdecode_2 (w : World) (A : Option Addr) (n c : Nat) (l : List UInt8) (hl : l.length = n) (h4 : n < 4) :
   Calls Tryz.prog 49 #[.slice A n c] w (Decodes l w) := by
 have Hd : Hid (decO l = (2, [], [])) := hid (by unfold decO; rw [if_pos (by omega)])
 have h4i : (n : Int) < 4 := by omega
 have hb := (Below.refl w.heap.size w).alloc (Nat.le_refl _) (.cells #[.slice none 0 0, .slice none 0 0] 72)
 have hl2 := load2 _ _ _ (heap_alloc_new w (.cells #[.slice none 0 0, .slice none 0 0] 72)) rfl
 go_enter Tryz.func49, Tryz.ntmps49
 go_wp2_with fail
 exact bodyPost_ret (v := .tuple #[.agg #[.slice none 0 0, .slice none 0 0], .int .i64 2]) (by simp [results, Tryz.results49, asAddr, hl2]) rfl (Decodes.bad Hd.out hb)

set_option maxRecDepth 100000 in
set_option maxHeartbeats 1000000 in
theorem rdecode_early (w : World) (K b o n c : Nat) (l : List UInt8) (hr : Byt.Rd w K (some ⟨b, o, none⟩) n l) (hK : K ≤ w.heap.size) (hnc : n ≤ c) (h4 : 4 ≤ n) (hm : l.take 4 ≠ magic ∨ (l.take 4 = magic ∧ n < 8) ∨ (l.take 4 = magic ∧ 8 ≤ n ∧ 65536 < n4 (l.drop 4))) :
   Calls Tryz.prog 49 #[.slice (some ⟨b, o, none⟩) n c] w (Decodes l w) := by
 have hl := hr.1
 have h4i : ¬ (n : Int) < 4 := by omega
 have h4c : (4 : Int) ≤ (c : Int) := by omega
 have hb := (Below.refl w.heap.size w).alloc (Nat.le_refl _) (.cells #[.slice none 0 0, .slice none 0 0] 72)
 have hrow := heap_alloc_new w (.cells #[.slice none 0 0, .slice none 0 0] 72)
 have hl2 := load2 _ _ _ hrow rfl
 have hr4 := (hr.below (hb.mono hK)).pre (m := 4) h4
 have Hr4 := hid hr4
 rcases hm with hm | ⟨hm, h8⟩ | ⟨hm, h8, hbig⟩
 · have Hd : Hid (decO l = (1, [], [])) := hid (by unfold decO; rw [if_neg (by omega), if_pos hm])
   have hbq : (l.take 4 == [79, 66, 74, 49]) = false := by rw [beq_eq_false_iff_ne]; exact hm
   obtain ⟨t, ht⟩ : ∃ t, l.take 4 = t := ⟨_, rfl⟩
   rw [ht] at hbq Hr4
   clear hr4 hm ht
   go_enter Tryz.func49, Tryz.ntmps49
   go_wp2_with (first | (refine wpList_str _ _ _ _ _ _ Hr4.out rfl (.tmp 15) rfl rfl ?_))
   exact bodyPost_ret (v := .tuple #[.agg #[.slice none 0 0, .slice none 0 0], .int .i64 1]) (by simp [results, Tryz.results49, asAddr, hl2]) rfl (Decodes.bad Hd.out hb)
 · have Hd : Hid (decO l = (2, [], [])) := hid (by unfold decO; rw [if_neg (by omega), if_neg (fun q => q hm), if_pos (by omega)])
   have hbq : (l.take 4 == [79, 66, 74, 49]) = true := by rw [beq_iff_eq]; exact hm
   have h8i : (n : Int) < 8 := by omega
   obtain ⟨t, ht⟩ : ∃ t, l.take 4 = t := ⟨_, rfl⟩
   rw [ht] at hbq Hr4
   clear hr4 hm ht
   go_enter Tryz.func49, Tryz.ntmps49
   go_wp2_with (first | (refine wpList_str _ _ _ _ _ _ Hr4.out rfl (.tmp 15) rfl rfl ?_))
   exact bodyPost_ret (v := .tuple #[.agg #[.slice none 0 0, .slice none 0 0], .int .i64 2]) (by simp [results, Tryz.results49, asAddr, hl2]) rfl (Decodes.bad Hd.out hb)
 · have Hd : Hid (decO l = (12, [], [])) := hid (by unfold decO; rw [if_neg (by omega), if_neg (fun q => q hm), if_neg (by omega), if_pos hbig])
   have hbq : (l.take 4 == [79, 66, 74, 49]) = true := by rw [beq_iff_eq]; exact hm
   have h8i : ¬ (n : Int) < 8 := by omega
   have h8c : (8 : Int) ≤ (c : Int) := by omega
   have hr8 := ((hr.below (hb.mono hK)).cut 4).pre (m := 4) (by omega)
   have hn4 : n4 ((l.drop 4).take 4) = n4 (l.drop 4) := by unfold n4; rw [List.take_take, Nat.min_self]
   have Hn := hid (rnumber_any _ K _ 4 (c - 4) _ hr8 (Nat.le_refl _))
   rw [hn4] at Hn
   have hbi : (65536 : Int) < (n4 (l.drop 4) : Int) := by omega
   obtain ⟨q, hq⟩ : ∃ q, n4 (l.drop 4) = q := ⟨_, rfl⟩
   rw [hq] at hbi Hn
   obtain ⟨t, ht⟩ : ∃ t, l.take 4 = t := ⟨_, rfl⟩
   rw [ht] at hbq Hr4
   clear hr4 hm ht hq hbig hn4
   go_enter Tryz.func49, Tryz.ntmps49
   go_wp2_with (first | (refine wpList_str _ _ _ _ _ _ Hr4.out rfl (.tmp 15) rfl rfl ?_))
   refine Hn.out.mono ?_
   rintro e w2 ⟨rfl, nm, hw⟩
   have hrow2 : w2.heap[w.heap.size]? = some (.cells #[.slice none 0 0, .slice none 0 0] 72 (0, 0)) := by rw [hw]; exact hrow
   have hb2 : Below w.heap.size w w2 := by rw [hw]; exact hb.trans (below_drewN _ _)
   have q0 := cell_of_row w2 w.heap.size 0 _ _ _ hrow2
   have q1 := cell_of_row w2 w.heap.size 1 _ _ _ hrow2
   have qf := fun o => frozen_of_row w2 w.heap.size o _ _ hrow2
   have hl3 := load2 _ _ _ (put2_row hrow2 (.slice none 0 0) (.slice none 0 0)) rfl
   have hb3 := put2_below hb2 (Nat.le_refl _) (.slice none 0 0) (.slice none 0 0)
   unfold put2 at hl3 hb3
   clear hw hrow2 hb hrow hl2 Hn hr8
   go_wp2_with fail
   exact bodyPost_ret (v := .tuple #[.agg #[.slice none 0 0, .slice none 0 0], .int .i64 12]) (by simp [results, Tryz.results49, asAddr, hl3]) rfl (Decodes.bad Hd.out hb3)

theorem slice_mid (K b o n c f t : Nat) (u v : Int) (hu : u = (f : Int)) (hv : v = (t : Int)) (hft : f ≤ t) (htn : t ≤ n) (hnc : n ≤ c) :
   ∃ p, (∀ w, (Instr.sliceAt 22 (.slice (some ⟨b, o, none⟩) n c) (some (.int .i64 u)) (some (.int .i64 v)) none).run Tryz.prog w = .ok (.slice (some ⟨b, p, none⟩) (t - f) (c - f)) w) ∧ (∀ w, (Instr.slice 22 (.slice (some ⟨b, o, none⟩) n c) (some (.int .i64 u)) (some (.int .i64 v)) none).run Tryz.prog w = .ok (.slice (some ⟨b, p, none⟩) (t - f) (c - f)) w) ∧ ∀ w l, Byt.Rd w K (some ⟨b, o, none⟩) n l → Byt.Rd w K (some ⟨b, p, none⟩) (t - f) ((l.drop f).take (t - f)) := by
 subst hu hv
 have h1 : (f : Int) ≤ (t : Int) := by omega
 have h2 : (t : Int) ≤ (c : Int) := by omega
 have h3 : (f : Int) ≤ (c : Int) := by omega
 by_cases hc : c = f
 · subst hc
   obtain rfl : t = c := by omega
   obtain rfl : t = n := by omega
   refine ⟨o, fun w => by go_simp, fun w => by go_simp, fun w l hr => ?_⟩
   rw [Nat.sub_self, List.take_zero]
   exact Rd.nil _ _ _
 · exact ⟨o + f, fun w => by go_simp, fun w => by go_simp, fun w l hr => (hr.cut f).pre (by omega)⟩

structure RD (w W : World) (M cnt n : Nat) (l : List UInt8) (k a : Nat) (A : Option Addr) (c : Nat) (acc : List Sy) : Prop where
 res : W.heap[w.heap.size]? = some (.cells #[.slice none 0 0, .slice none 0 0] 72 (0, 0))
 row : W.heap[M]? = some (.cells #[.slice A k c, .slice none 0 0] 72 (0, 0))
 own : Cel.Own 69 4 W (M + 1) (.slice A k c) k (scells acc)
 len : acc.length = k
 names : ∀ x ∈ acc, x.name.size ≤ maxLen
 lt : w.heap.size < M
 below : Below w.heap.size w W
 go : decO l = decL (cnt - k) acc (l.drop a)
 le : k ≤ cnt ∧ a ≤ n
theorem RD.on {w W W' : World} {M cnt n k a c : Nat} {l : List UInt8} {A : Option Addr} {acc : List Sy} (h : RD w W M cnt n l k a A c acc) (hb : Below W.heap.size W W') : RD w W' M cnt n l k a A c acc :=
 ⟨(hb.block _ (Array.getElem?_eq_some_iff.1 h.res).1).trans h.res, (hb.block _ (Array.getElem?_eq_some_iff.1 h.row).1).trans h.row, h.own.below hb, h.len, h.names, h.lt, h.below.trans (hb.mono h.below.size), h.go, h.le⟩

set_option linter.unusedSimpArgs false in
set_option maxRecDepth 100000 in
set_option maxHeartbeats 16000000 in
theorem rdecode_go (w : World) (K b o n c : Nat) (l : List UInt8) (hr : Byt.Rd w K (some ⟨b, o, none⟩) n l) (hK : K ≤ w.heap.size) (hnc : n ≤ c) (hn : n ≤ 1000000) (h8 : 8 ≤ n) (hm : l.take 4 = magic) (hbig : ¬ 65536 < n4 (l.drop 4)) :
   Calls Tryz.prog 49 #[.slice (some ⟨b, o, none⟩) n c] w (Decodes l w) := by
 have hl := hr.1
 have h4i : ¬ (n : Int) < 4 := by omega
 have h4c : (4 : Int) ≤ (c : Int) := by omega
 have h8i : ¬ (n : Int) < 8 := by omega
 have h8c : (8 : Int) ≤ (c : Int) := by omega
 have hb := (Below.refl w.heap.size w).alloc (Nat.le_refl _) (.cells #[.slice none 0 0, .slice none 0 0] 72)
 have hrow := heap_alloc_new w (.cells #[.slice none 0 0, .slice none 0 0] 72)
 have hr4 := (hr.below (hb.mono hK)).pre (m := 4) (by omega)
 have Hr4 := hid hr4
 have hbq : (l.take 4 == [79, 66, 74, 49]) = true := by rw [beq_iff_eq]; exact hm
 have hr8 := ((hr.below (hb.mono hK)).cut 4).pre (m := 4) (by omega)
 have hn4 : n4 ((l.drop 4).take 4) = n4 (l.drop 4) := by unfold n4; rw [List.take_take, Nat.min_self]
 have Hn := hid (rnumber_any _ K _ 4 (c - 4) _ hr8 (Nat.le_refl _))
 rw [hn4] at Hn
 have Hd : Hid (decO l = decL (n4 (l.drop 4)) [] (l.drop 8)) := hid (by unfold decO; rw [if_neg (by omega), if_neg (fun q => q hm), if_neg (by omega), if_neg hbig])
 obtain ⟨q, hq⟩ : ∃ q, n4 (l.drop 4) = q := ⟨_, rfl⟩
 rw [hq] at hbig Hn Hd
 have hqi : ¬ (65536 : Int) < (q : Int) := by omega
 obtain ⟨t, ht⟩ : ∃ t, l.take 4 = t := ⟨_, rfl⟩
 rw [ht] at hbq Hr4
 clear hr4 hm ht hq hn4
 go_enter Tryz.func49, Tryz.ntmps49
 go_wp2_with (first | (refine wpList_str _ _ _ _ _ _ Hr4.out rfl (.tmp 15) rfl rfl ?_))
 refine Hn.out.mono ?_
 rintro e w2 ⟨rfl, nm, hw⟩
 have hrow2 : w2.heap[w.heap.size]? = some (.cells #[.slice none 0 0, .slice none 0 0] 72 (0, 0)) := by rw [hw]; exact hrow
 have hb2 : Below w.heap.size w w2 := by rw [hw]; exact hb.trans (below_drewN _ _)
 have hlt2 : w.heap.size < w2.heap.size := (Array.getElem?_eq_some_iff.1 hrow2).1
 have hb3 := (Below.refl w2.heap.size w2).alloc (Nat.le_refl _) (.cells #[.slice none 0 0, .slice none 0 0] 72)
 have hP : RD w (w2.alloc (.cells #[.slice none 0 0, .slice none 0 0] 72)) w2.heap.size q n l 0 8 none 0 [] :=
   ⟨(hb3.block _ hlt2).trans hrow2, heap_alloc_new w2 _, Cel.Own.nil _ _ _ _, rfl, by simp, hlt2, hb2.trans (hb3.mono hb2.size), by rw [Hd.out]; rfl, by omega, h8⟩
 clear hw hrow2 hb hrow Hn hr8 hb3 hb2 Hd
 go_wp2_with fail
 generalize w2.alloc (.cells #[.slice none 0 0, .slice none 0 0] 72) = w3 at *
 generalize w2.heap.size = M at *
 go_loopw [6, 7] (fun av iv W => ∃ (k a : Nat) (A : Option Addr) (c1 : Nat) (acc : List Sy), iv = .int .i64 (k : Int) ∧ av = .int .i64 (a : Int) ∧ RD w W M q n l k a A c1 acc) (fun _ i _ => q - (intOf i).toNat)
 case atStart => exact ⟨0, 8, none, 0, [], rfl, rfl, hP⟩
 case round =>
   obtain ⟨k, a, A, c1, acc, rfl, rfl, hP1⟩ := hrel
   clear hP
   obtain ⟨hkq, han⟩ := hP1.le
   by_cases hlt : k < q
   · have hki : (k : Int) < (q : Int) := by omega
     obtain ⟨j, hj⟩ : ∃ j, q - k = j + 1 := ⟨q - k - 1, by omega⟩
     have HD : Hid (decO l = if cutS (l.drop a) then (2, [], []) else if has acc (rdS (l.drop a)).name = true ∨ symOk (rdS (l.drop a)) = false then (12, [], []) else decL (q - (k + 1)) (acc ++ [rdS (l.drop a)]) ((l.drop a).drop (10 + kS (l.drop a)))) := hid (by rw [hP1.go, hj, show q - (k + 1) = j by omega]; rfl)
     clear hj
     have q0 := cell_of_row wr w.heap.size 0 _ _ _ hP1.res
     have q1 := cell_of_row wr w.heap.size 1 _ _ _ hP1.res
     have qf := fun o => frozen_of_row wr w.heap.size o _ _ hP1.res
     have hl3 := load2 _ _ _ (put2_row hP1.res (.slice none 0 0) (.slice none 0 0)) rfl
     have hb3 := put2_below hP1.below (Nat.le_refl _) (.slice none 0 0) (.slice none 0 0)
     unfold put2 at hl3 hb3
     have hrw := hr.below (hP1.below.mono hK)
     by_cases h10 : n < a + 10
     · have h10i : decide ((n : Int) < (a : Int) + 10) = true := by simp; omega
       have hd : Hid (decO l = (2, [], [])) := hid (by rw [HD.out, if_pos (by unfold cutS; left; rw [List.length_drop]; omega)])
       go_wp2_with fail
       exact bodyPost_ret (v := .tuple #[.agg #[.slice none 0 0, .slice none 0 0], .int .i64 2]) (by simp [results, Tryz.results49, asAddr, hl3]) rfl (Decodes.bad hd.out hb3)
     · have h10i : decide ((n : Int) < (a : Int) + 10) = false := by simp; omega
       obtain ⟨r, hrr⟩ : ∃ r, r = l.drop a := ⟨_, rfl⟩
       have hrl : r.length = n - a := by rw [hrr, List.length_drop, hl]
       have hra : Byt.Rd wr K (some ⟨b, o + a, none⟩) (n - a) r := by rw [hrr]; exact hrw.cut a
       rw [← hrr] at HD
       obtain ⟨b', o', e', hbK, hc9⟩ := hra.2 9 (by omega)
       injection e' with e'
       injection e' with e1 e2
       subst e1 e2
       obtain ⟨_, _, e0, _, hc0⟩ := hra.2 0 (by omega)
       injection e0 with e0
       injection e0 with e01 e02
       subst e01 e02
       have hk9 : kS r = (r[9]'(by omega)).toNat := by unfold kS; rw [List.getD_eq_getElem?_getD, List.getElem?_eq_getElem (by omega)]; rfl
       have hk0 : (rdS r).bind = ((r[0]'(by omega)).toNat : Int) := by show ((r.getD 0 0).toNat : Int) = _; rw [List.getD_eq_getElem?_getD, List.getElem?_eq_getElem (by omega)]; rfl
       have hu9 := (r[9]'(by omega)).toNat_lt
       have hu0 := (r[0]'(by omega)).toNat_lt
       have Hk9 := hid hk9
       have Hk0 := hid hk0
       clear hk9 hk0
       generalize r[9]'(by omega) = u9 at *
       generalize r[0]'(by omega) = u0 at *
       rw [Nat.add_assoc] at hc9
       rw [Nat.add_zero] at hc0
       have i9 : (a : Int) + 9 < (n : Int) := by omega
       by_cases h11 : n < a + 10 + u9.toNat
       · have h11i : decide ((n : Int) < (a : Int) + 10 + (u9.toNat : Int)) = true := by simp; omega
         have hd : Hid (decO l = (2, [], [])) := hid (by rw [HD.out, if_pos (by unfold cutS; right; rw [Hk9.out]; omega)])
         go_wp2_with fail
         exact bodyPost_ret (v := .tuple #[.agg #[.slice none 0 0, .slice none 0 0], .int .i64 2]) (by simp [results, Tryz.results49, asAddr, hl3]) rfl (Decodes.bad hd.out hb3)
       · have h11i : decide ((n : Int) < (a : Int) + 10 + (u9.toNat : Int)) = false := by simp; omega
         have HD2 : Hid (decO l = if has acc (rdS r).name = true ∨ symOk (rdS r) = false then (12, [], []) else decL (q - (k + 1)) (acc ++ [rdS r]) (r.drop (10 + kS r))) := hid (by rw [HD.out, if_neg (by unfold cutS; rw [Hk9.out]; omega)])
         have HP := hid hP1
         have Hra := hid hra
         have hHK : K ≤ wr.heap.size := Nat.le_trans hK hP1.below.size
         clear HD hl3 hb3 q0 q1 qf hP1 hra
         go_upto_region 18 with fail
         obtain ⟨p1, hs1, ht1, hq1⟩ := slice_mid K b o n c (a + 10) (a + 10 + u9.toNat) ((a : Int) + 10) ((a : Int) + 10 + (u9.toNat : Int)) (by omega) (by omega) (by omega) (by omega) hnc
         obtain ⟨p2, hs2, ht2, hq2⟩ := slice_mid K b o n c (a + 1) (a + 5) ((a : Int) + 1) ((a : Int) + 5) (by omega) (by omega) (by omega) (by omega) hnc
         obtain ⟨p3, hs3, ht3, hq3⟩ := slice_mid K b o n c (a + 5) (a + 9) ((a : Int) + 5) ((a : Int) + 9) (by omega) (by omega) (by omega) (by omega) hnc
         rw [show a + 10 + u9.toNat - (a + 10) = u9.toNat by omega] at hs1 ht1 hq1
         rw [show a + 5 - (a + 1) = 4 by omega] at hs2 ht2 hq2
         rw [show a + 9 - (a + 5) = 4 by omega] at hs3 ht3 hq3
         obtain ⟨ls, hls⟩ : ∃ ls, ls = (r.drop 10).take u9.toNat := ⟨_, rfl⟩
         have Hls := hid hls
         have hSall : ∀ W', Below wr.heap.size wr W' → (convert 22 9 (.slice (some ⟨b, p1, none⟩) u9.toNat (c - (a + 10)))).run Tryz.prog W' = .ok (.string ⟨ls.toArray⟩) W' ∧ W'.cell? ⟨b, o + a, none⟩ = some (.int .u8 (u0.toNat : Int)) ∧ Below wr.heap.size wr W' := fun W' hW => by
           refine ⟨?_, (hW.cell (p := ⟨b, o + a, none⟩) (by show b < _; omega)).trans hc0, hW⟩
           have := hq1 W' l (hrw.below (hW.mono hHK))
           rw [← List.drop_drop, ← hrr, ← hls] at this
           exact run_str W' K _ _ _ _ this
         have HN2 : Hid (∀ W', Below wr.heap.size wr W' → Calls Tryz.prog 62 #[.slice (some ⟨b, p2, none⟩) 4 (c - (a + 1))] W' fun e W'' => e = .returned (.int .i64 (n4 (r.drop 1) : Int)) ∧ ∃ m, W'' = W'.drewN m) := hid fun W' hW => by
           have h1 := hq2 W' l (hrw.below (hW.mono hHK))
           have h2 := rnumber_any W' K _ 4 (c - (a + 1)) _ h1 (Nat.le_refl _)
           have e : n4 ((l.drop (a + 1)).take 4) = n4 (r.drop 1) := by rw [hrr, List.drop_drop]; unfold n4; rw [List.take_take, Nat.min_self]
           rw [e] at h2
           exact h2
         have HN3 : Hid (∀ W', Below wr.heap.size wr W' → Calls Tryz.prog 62 #[.slice (some ⟨b, p3, none⟩) 4 (c - (a + 5))] W' fun e W'' => e = .returned (.int .i64 (n4 (r.drop 5) : Int)) ∧ ∃ m, W'' = W'.drewN m) := hid fun W' hW => by
           have h1 := hq3 W' l (hrw.below (hW.mono hHK))
           have h2 := rnumber_any W' K _ 4 (c - (a + 5)) _ h1 (Nat.le_refl _)
           have e : n4 ((l.drop (a + 5)).take 4) = n4 (r.drop 5) := by rw [hrr, List.drop_drop]; unfold n4; rw [List.take_take, Nat.min_self]
           rw [e] at h2
           exact h2
         obtain ⟨z2, hz2⟩ : ∃ z, z = n4 (r.drop 1) := ⟨_, rfl⟩
         obtain ⟨z3, hz3⟩ : ∃ z, z = n4 (r.drop 5) := ⟨_, rfl⟩
         rw [← hz2] at HN2
         rw [← hz3] at HN3
         have hx : rdS r = ⟨⟨ls.toArray⟩, (u0.toNat : Int), (z2 : Int), (z3 : Int)⟩ := by
           have h1 : (rdS r).name = ⟨ls.toArray⟩ := by show str ((r.drop 10).take (kS r)) = _; rw [Hk9.out, ← hls]; rfl
           have h2 : (rdS r).size = (z2 : Int) := by rw [hz2]; rfl
           have h3 : (rdS r).align = (z3 : Int) := by rw [hz3]; rfl
           rw [← h1, ← Hk0.out, ← h2, ← h3]
         have Hx := hid hx
         clear hls hz2 hz3 hx hq1 hq2 hq3
         have hbX0 : Below wr.heap.size wr wr.drew := (Below.refl _ _).drew
         have i0 : (a : Int) < (n : Int) := by omega
         have wu0 : IntKind.i64.wrap (u0.toNat : Int) = (u0.toNat : Int) := by rw [IntKind.wrap_i64]; omega
         have wa1 : IntKind.i64.wrap ((a : Int) + 1) = (a : Int) + 1 := by rw [IntKind.wrap_i64]; omega
         have wa5 : IntKind.i64.wrap ((a : Int) + 5) = (a : Int) + 5 := by rw [IntKind.wrap_i64]; omega
         have wa9 : IntKind.i64.wrap ((a : Int) + 9) = (a : Int) + 9 := by rw [IntKind.wrap_i64]; omega
         have wa10 : IntKind.i64.wrap ((a : Int) + 10) = (a : Int) + 10 := by rw [IntKind.wrap_i64]; omega
         go_cut [9] from 63 to 88 (fun s9 wx => ∃ g, s9 = .pointer (some ⟨g, 0, none⟩) ∧ wx.heap[g]? = some (.cells #[.string ⟨ls.toArray⟩, .int .i64 (u0.toNat : Int), .int .i64 (z2 : Int), .int .i64 (z3 : Int)] 69 (0, 0)) ∧ wr.heap.size ≤ g ∧ Below wr.heap.size wr wx)
         case first =>
           refine Ord.Till.begin (fun W' => (convert 22 9 (.slice (some ⟨b, p1, none⟩) u9.toNat (c - (a + 10)))).run Tryz.prog W' = .ok (.string ⟨ls.toArray⟩) W' ∧ W'.cell? ⟨b, o + a, none⟩ = some (.int .u8 (u0.toNat : Int)) ∧ Below wr.heap.size wr W') 50 (by kernel_rfl) ?_
           have hS0 : (fun W' => (convert 22 9 (.slice (some ⟨b, p1, none⟩) u9.toNat (c - (a + 10)))).run Tryz.prog W' = .ok (.string ⟨ls.toArray⟩) W' ∧ W'.cell? ⟨b, o + a, none⟩ = some (.int .u8 (u0.toNat : Int)) ∧ Below wr.heap.size wr W') wr.drew := hSall _ hbX0
           refine Ord.Till.take 0 (oi := _) (x := ?_) rfl (by kernel_rfl) (by kernel_rfl) (by kernel_rfl) (by kernel_rfl) (fun _ _ _ h => h) (by rfl) ?_ hS0 ?_
           rotate_left 1
           · intro v hv; obtain ⟨z1, z2', z3'⟩ := hv; go_simp; first | done | with_reducible rfl
           try simp only [Act.put, List.setIfInBounds_toArray, List.set_cons_zero, List.set_cons_succ]
           refine Ord.Till.take 1 (oi := _) (x := ?_) rfl (by kernel_rfl) (by kernel_rfl) (by kernel_rfl) (by kernel_rfl) (fun _ _ _ h => h) (by rfl) ?_ hS0 ?_
           rotate_left 1
           · intro v hv; obtain ⟨z1, z2', z3'⟩ := hv; go_simp; first | done | with_reducible rfl
           try simp only [Act.put, List.setIfInBounds_toArray, List.set_cons_zero, List.set_cons_succ]
           refine Ord.Till.take 2 (oi := _) (x := ?_) rfl (by kernel_rfl) (by kernel_rfl) (by kernel_rfl) (by kernel_rfl) (fun _ _ _ h => h) (by rfl) ?_ hS0 ?_
           rotate_left 1
           · intro v hv; obtain ⟨z1, z2', z3'⟩ := hv; go_simp; first | done | with_reducible rfl
           try simp only [Act.put, List.setIfInBounds_toArray, List.set_cons_zero, List.set_cons_succ]
           refine Ord.Till.take 3 (oi := _) (x := ?_) rfl (by kernel_rfl) (by kernel_rfl) (by kernel_rfl) (by kernel_rfl) (fun _ _ _ h => h) (by rfl) ?_ hS0 ?_
           rotate_left 1
           · intro v hv; obtain ⟨z1, z2', z3'⟩ := hv; go_simp; first | done | with_reducible rfl
           try simp only [Act.put, List.setIfInBounds_toArray, List.set_cons_zero, List.set_cons_succ]
           refine Ord.Till.take 4 (oi := _) (x := ?_) rfl (by kernel_rfl) (by kernel_rfl) (by kernel_rfl) (by kernel_rfl) (fun _ _ _ h => h) (by rfl) ?_ hS0 ?_
           rotate_left 1
           · intro v hv; obtain ⟨z1, z2', z3'⟩ := hv; go_simp; first | done | with_reducible rfl
           try simp only [Act.put, List.setIfInBounds_toArray, List.set_cons_zero, List.set_cons_succ]
           refine Ord.Till.take 5 (oi := _) (x := ?_) rfl (by kernel_rfl) (by kernel_rfl) (by kernel_rfl) (by kernel_rfl) (fun _ _ _ h => h) (by rfl) ?_ hS0 ?_
           rotate_left 1
           · intro v hv; obtain ⟨z1, z2', z3'⟩ := hv; go_simp; first | done | with_reducible rfl
           try simp only [Act.put, List.setIfInBounds_toArray, List.set_cons_zero, List.set_cons_succ]
           refine Ord.Till.take 6 (oi := _) (x := ?_) rfl (by kernel_rfl) (by kernel_rfl) (by kernel_rfl) (by kernel_rfl) (fun _ _ _ h => h) (by rfl) ?_ hS0 ?_
           rotate_left 1
           · intro v hv; obtain ⟨z1, z2', z3'⟩ := hv; go_simp; first | done | with_reducible rfl
           try simp only [Act.put, List.setIfInBounds_toArray, List.set_cons_zero, List.set_cons_succ]
           refine Ord.Till.take 7 (oi := _) (x := ?_) rfl (by kernel_rfl) (by kernel_rfl) (by kernel_rfl) (by kernel_rfl) (fun _ _ _ h => h) (by rfl) ?_ hS0 ?_
           rotate_left 1
           · intro v hv; obtain ⟨z1, z2', z3'⟩ := hv; go_simp; first | done | with_reducible rfl
           try simp only [Act.put, List.setIfInBounds_toArray, List.set_cons_zero, List.set_cons_succ]
           refine Ord.Till.take 8 (oi := _) (x := ?_) rfl (by kernel_rfl) (by kernel_rfl) (by kernel_rfl) (by kernel_rfl) (fun _ _ _ h => h) (by rfl) ?_ hS0 ?_
           rotate_left 1
           · intro v hv; obtain ⟨z1, z2', z3'⟩ := hv; go_simp; first | done | with_reducible rfl
           try simp only [Act.put, List.setIfInBounds_toArray, List.set_cons_zero, List.set_cons_succ]
           refine Ord.Till.take 9 (oi := _) (x := ?_) rfl (by kernel_rfl) (by kernel_rfl) (by kernel_rfl) (by kernel_rfl) (fun _ _ _ h => h) (by rfl) ?_ hS0 ?_
           rotate_left 1
           · intro v hv; obtain ⟨z1, z2', z3'⟩ := hv; go_simp; first | done | with_reducible rfl
           try simp only [Act.put, List.setIfInBounds_toArray, List.set_cons_zero, List.set_cons_succ]
           refine Ord.Till.take 10 (oi := _) (x := ?_) rfl (by kernel_rfl) (by kernel_rfl) (by kernel_rfl) (by kernel_rfl) (fun _ _ _ h => h) (by rfl) ?_ hS0 ?_
           rotate_left 1
           · intro v hv; obtain ⟨z1, z2', z3'⟩ := hv; go_simp; first | done | with_reducible rfl
           try simp only [Act.put, List.setIfInBounds_toArray, List.set_cons_zero, List.set_cons_succ]
           refine Ord.Till.take 11 (oi := _) (x := ?_) rfl (by kernel_rfl) (by kernel_rfl) (by kernel_rfl) (by kernel_rfl) (fun _ _ _ h => h) (by rfl) ?_ hS0 ?_
           rotate_left 1
           · intro v hv; obtain ⟨z1, z2', z3'⟩ := hv; go_simp; first | done | with_reducible rfl
           try simp only [Act.put, List.setIfInBounds_toArray, List.set_cons_zero, List.set_cons_succ]
           refine Ord.Till.take 12 (oi := _) (x := ?_) rfl (by kernel_rfl) (by kernel_rfl) (by kernel_rfl) (by kernel_rfl) (fun _ _ _ h => h) (by rfl) ?_ hS0 ?_
           rotate_left 1
           · intro v hv; obtain ⟨z1, z2', z3'⟩ := hv; go_simp; first | done | with_reducible rfl
           try simp only [Act.put, List.setIfInBounds_toArray, List.set_cons_zero, List.set_cons_succ]
           refine Ord.Till.take 13 (oi := _) (x := ?_) rfl (by kernel_rfl) (by kernel_rfl) (by kernel_rfl) (by kernel_rfl) (fun _ _ _ h => h) (by rfl) ?_ hS0 ?_
           rotate_left 1
           · intro v hv; obtain ⟨z1, z2', z3'⟩ := hv; go_simp; first | done | with_reducible rfl
           try simp only [Act.put, List.setIfInBounds_toArray, List.set_cons_zero, List.set_cons_succ]
           refine Ord.Till.take 14 (oi := _) (x := ?_) rfl (by kernel_rfl) (by kernel_rfl) (by kernel_rfl) (by kernel_rfl) (fun _ _ _ h => h) (by rfl) ?_ hS0 ?_
           rotate_left 1
           · intro v hv; obtain ⟨z1, z2', z3'⟩ := hv; go_simp; first | done | with_reducible rfl
           try simp only [Act.put, List.setIfInBounds_toArray, List.set_cons_zero, List.set_cons_succ]
           refine Ord.Till.take 15 (oi := _) (x := ?_) rfl (by kernel_rfl) (by kernel_rfl) (by kernel_rfl) (by kernel_rfl) (fun _ _ _ h => h) (by rfl) ?_ hS0 ?_
           rotate_left 1
           · intro v hv; obtain ⟨z1, z2', z3'⟩ := hv; go_simp; first | done | with_reducible rfl
           try simp only [Act.put, List.setIfInBounds_toArray, List.set_cons_zero, List.set_cons_succ]
           refine Ord.Till.take 16 (oi := _) (x := ?_) rfl (by kernel_rfl) (by kernel_rfl) (by kernel_rfl) (by kernel_rfl) (fun _ _ _ h => h) (by rfl) ?_ hS0 ?_
           rotate_left 1
           · intro v hv; obtain ⟨z1, z2', z3'⟩ := hv; go_simp; first | done | with_reducible rfl
           try simp only [Act.put, List.setIfInBounds_toArray, List.set_cons_zero, List.set_cons_succ]
           refine Ord.Till.take 18 (oi := _) (x := ?_) rfl (by kernel_rfl) (by kernel_rfl) (by kernel_rfl) (by kernel_rfl) (fun _ _ _ h => h) (by rfl) ?_ hS0 ?_
           rotate_left 1
           · intro v hv; obtain ⟨z1, z2', z3'⟩ := hv; go_simp; first | done | with_reducible rfl
           try simp only [Act.put, List.setIfInBounds_toArray, List.set_cons_zero, List.set_cons_succ]
           refine Ord.Till.take 19 (oi := _) (x := ?_) rfl (by kernel_rfl) (by kernel_rfl) (by kernel_rfl) (by kernel_rfl) (fun _ _ _ h => h) (by rfl) ?_ hS0 ?_
           rotate_left 1
           · intro v hv; obtain ⟨z1, z2', z3'⟩ := hv; go_simp; first | done | with_reducible rfl
           try simp only [Act.put, List.setIfInBounds_toArray, List.set_cons_zero, List.set_cons_succ]
           refine Ord.Till.take 20 (oi := _) (x := ?_) rfl (by kernel_rfl) (by kernel_rfl) (by kernel_rfl) (by kernel_rfl) (fun _ _ _ h => h) (by rfl) ?_ hS0 ?_
           rotate_left 1
           · intro v hv; obtain ⟨z1, z2', z3'⟩ := hv; go_simp; first | done | with_reducible rfl
           try simp only [Act.put, List.setIfInBounds_toArray, List.set_cons_zero, List.set_cons_succ]
           refine Ord.Till.take 21 (oi := _) (x := ?_) rfl (by kernel_rfl) (by kernel_rfl) (by kernel_rfl) (by kernel_rfl) (fun _ _ _ h => h) (by rfl) ?_ hS0 ?_
           rotate_left 1
           · intro v hv; obtain ⟨z1, z2', z3'⟩ := hv; go_simp; first | done | with_reducible rfl
           try simp only [Act.put, List.setIfInBounds_toArray, List.set_cons_zero, List.set_cons_succ]
           refine Ord.Till.take 22 (oi := _) (x := ?_) rfl (by kernel_rfl) (by kernel_rfl) (by kernel_rfl) (by kernel_rfl) (fun _ _ _ h => h) (by rfl) ?_ hS0 ?_
           rotate_left 1
           · intro v hv; obtain ⟨z1, z2', z3'⟩ := hv; go_simp; first | done | with_reducible rfl
           try simp only [Act.put, List.setIfInBounds_toArray, List.set_cons_zero, List.set_cons_succ]
           refine Ord.Till.take 23 (oi := _) (x := ?_) rfl (by kernel_rfl) (by kernel_rfl) (by kernel_rfl) (by kernel_rfl) (fun _ _ _ h => h) (by rfl) ?_ hS0 ?_
           rotate_left 1
           · intro v hv; obtain ⟨z1, z2', z3'⟩ := hv; go_simp; first | done | with_reducible rfl
           try simp only [Act.put, List.setIfInBounds_toArray, List.set_cons_zero, List.set_cons_succ]
           refine Ord.Till.two 17 26 (by kernel_rfl) rfl rfl (fun C hC => ?_) (fun C hC => ?_)
           · go_simp
             go_at_call 62
             refine (HN2.out _ hbX0).mono ?_
             rintro e v1 ⟨rfl, mv1, hwv1⟩
             have hv1 : Below wr.heap.size wr v1 := by rw [hwv1]; exact hbX0.trans (below_drewN _ _)
             clear hwv1
             refine hC.out _ _ (fun _ => hSall _ hv1) ?_
             clear hC C
             try simp only [Act.put, List.setIfInBounds_toArray, List.set_cons_zero, List.set_cons_succ]
             refine Ord.Till.two 24 26 (by kernel_rfl) rfl rfl (fun C hC => ?_) (fun C hC => ?_)
             · go_simp
               go_at_call 62
               refine (HN3.out _ hv1).mono ?_
               rintro e v2 ⟨rfl, mv2, hwv2⟩
               have hv2 : Below wr.heap.size wr v2 := by rw [hwv2]; exact hv1.trans (below_drewN _ _)
               clear hwv2
               refine hC.out _ _ (fun _ => hSall _ hv2) ?_
               clear hC C
               try simp only [Act.put, List.setIfInBounds_toArray, List.set_cons_zero, List.set_cons_succ]
               refine Ord.Till.take 25 (oi := _) (x := ?_) rfl (by kernel_rfl) (by kernel_rfl) (by kernel_rfl) (by kernel_rfl) (fun _ _ _ h => h) (by rfl) ?_ (hSall _ hv2) ?_
               rotate_left 1
               · intro v hv; obtain ⟨z1, z2', z3'⟩ := hv; go_simp; first | done | with_reducible rfl
               try simp only [Act.put, List.setIfInBounds_toArray, List.set_cons_zero, List.set_cons_succ]
               refine Ord.Till.step 26 (by kernel_rfl) rfl (fun C hC => ?_)
               go_simp
               have hA := heap_alloc_new v2 (.cells #[.string ⟨#[]⟩, .int .i64 0, .int .i64 0, .int .i64 0] 69)
               have hB : Below wr.heap.size wr (World.alloc v2 (.cells #[.string ⟨#[]⟩, .int .i64 0, .int .i64 0, .int .i64 0] 69)) := (hv2).alloc (hv2).size _
               have hg : wr.heap.size ≤ v2.heap.size := (hv2).size
               refine hC.out _ _ (fun _ => hSall _ hB) ?_
               clear hC C
               try simp only [Act.put, List.setIfInBounds_toArray, List.set_cons_zero, List.set_cons_succ]
               generalize World.alloc v2 (.cells #[.string ⟨#[]⟩, .int .i64 0, .int .i64 0, .int .i64 0] 69) = v3 at *
               generalize v2.heap.size = g at *
               have k0 := cell_of_row v3 g 0 _ _ _ hA
               have k1 := cell_of_row v3 g 1 _ _ _ hA
               have k2 := cell_of_row v3 g 2 _ _ _ hA
               have k3 := cell_of_row v3 g 3 _ _ _ hA
               have kf := fun o => frozen_of_row v3 g o _ _ hA
               have hrz := put4_row hA (.string ⟨ls.toArray⟩) (.int .i64 (u0.toNat : Int)) (.int .i64 (z2 : Int)) (.int .i64 (z3 : Int))
               have hbz := put4_below hB hg (.string ⟨ls.toArray⟩) (.int .i64 (u0.toNat : Int)) (.int .i64 (z2 : Int)) (.int .i64 (z3 : Int))
               unfold put4 at hrz hbz
               refine Ord.Till.step 27 (by kernel_rfl) rfl (fun C hC => ?_)
               go_simp
               refine hC.out _ _ (fun _ => hSall _ hbz) ?_
               clear hC C
               try simp only [Act.put, List.setIfInBounds_toArray, List.set_cons_zero, List.set_cons_succ]
               refine Ord.Till.done (by kernel_rfl) ?_ _
               clear k0 k1 k2 k3 kf
               go_wp2_with fail
               go_meet
               exact ⟨g, rfl, hrz, hg, hbz⟩
             · go_simp
               have hA := heap_alloc_new v1 (.cells #[.string ⟨#[]⟩, .int .i64 0, .int .i64 0, .int .i64 0] 69)
               have hB : Below wr.heap.size wr (World.alloc v1 (.cells #[.string ⟨#[]⟩, .int .i64 0, .int .i64 0, .int .i64 0] 69)) := (hv1).alloc (hv1).size _
               have hg : wr.heap.size ≤ v1.heap.size := (hv1).size
               refine hC.out _ _ (fun _ => hSall _ hB) ?_
               clear hC C
               try simp only [Act.put, List.setIfInBounds_toArray, List.set_cons_zero, List.set_cons_succ]
               generalize World.alloc v1 (.cells #[.string ⟨#[]⟩, .int .i64 0, .int .i64 0, .int .i64 0] 69) = v2 at *
               generalize v1.heap.size = g at *
               refine Ord.Till.step 24 (by kernel_rfl) rfl (fun C hC => ?_)
               go_simp
               go_at_call 62
               refine (HN3.out _ hB).mono ?_
               rintro e v3 ⟨rfl, mv3, hwv3⟩
               have hv3 : Below wr.heap.size wr v3 := by rw [hwv3]; exact hB.trans (below_drewN _ _)
               have rv3 : v3.heap[g]? = _ := (by rw [hwv3]; exact hA : v3.heap[g]? = some (.cells #[.string ⟨#[]⟩, .int .i64 0, .int .i64 0, .int .i64 0] 69 (0, 0)))
               clear hwv3
               refine hC.out _ _ (fun _ => hSall _ hv3) ?_
               clear hC C
               try simp only [Act.put, List.setIfInBounds_toArray, List.set_cons_zero, List.set_cons_succ]
               refine Ord.Till.take 25 (oi := _) (x := ?_) rfl (by kernel_rfl) (by kernel_rfl) (by kernel_rfl) (by kernel_rfl) (fun _ _ _ h => h) (by rfl) ?_ (hSall _ hv3) ?_
               rotate_left 1
               · intro v hv; obtain ⟨z1, z2', z3'⟩ := hv; go_simp; first | done | with_reducible rfl
               try simp only [Act.put, List.setIfInBounds_toArray, List.set_cons_zero, List.set_cons_succ]
               have k0 := cell_of_row v3 g 0 _ _ _ rv3
               have k1 := cell_of_row v3 g 1 _ _ _ rv3
               have k2 := cell_of_row v3 g 2 _ _ _ rv3
               have k3 := cell_of_row v3 g 3 _ _ _ rv3
               have kf := fun o => frozen_of_row v3 g o _ _ rv3
               have hrz := put4_row rv3 (.string ⟨ls.toArray⟩) (.int .i64 (u0.toNat : Int)) (.int .i64 (z2 : Int)) (.int .i64 (z3 : Int))
               have hbz := put4_below hv3 hg (.string ⟨ls.toArray⟩) (.int .i64 (u0.toNat : Int)) (.int .i64 (z2 : Int)) (.int .i64 (z3 : Int))
               unfold put4 at hrz hbz
               refine Ord.Till.step 27 (by kernel_rfl) rfl (fun C hC => ?_)
               go_simp
               refine hC.out _ _ (fun _ => hSall _ hbz) ?_
               clear hC C
               try simp only [Act.put, List.setIfInBounds_toArray, List.set_cons_zero, List.set_cons_succ]
               refine Ord.Till.done (by kernel_rfl) ?_ _
               clear k0 k1 k2 k3 kf
               go_wp2_with fail
               go_meet
               exact ⟨g, rfl, hrz, hg, hbz⟩
           · go_simp
             have hA : (World.alloc wr (.cells #[.string ⟨#[]⟩, .int .i64 0, .int .i64 0, .int .i64 0] 69)).drew.heap[wr.heap.size]? = some (.cells #[.string ⟨#[]⟩, .int .i64 0, .int .i64 0, .int .i64 0] 69 (0, 0)) := heap_alloc_new wr _
             have hB : Below wr.heap.size wr (World.alloc wr (.cells #[.string ⟨#[]⟩, .int .i64 0, .int .i64 0, .int .i64 0] 69)).drew := ((Below.refl wr.heap.size wr).alloc (Nat.le_refl _) _).drew
             have hg : wr.heap.size ≤ wr.heap.size := Nat.le_refl _
             refine hC.out _ _ (fun _ => hSall _ hB) ?_
             clear hC C
             try simp only [Act.put, List.setIfInBounds_toArray, List.set_cons_zero, List.set_cons_succ]
             generalize (World.alloc wr (.cells #[.string ⟨#[]⟩, .int .i64 0, .int .i64 0, .int .i64 0] 69)).drew = v1 at *
             refine Ord.Till.step 17 (by kernel_rfl) rfl (fun C hC => ?_)
             go_simp
             go_at_call 62
             refine (HN2.out _ hB).mono ?_
             rintro e v2 ⟨rfl, mv2, hwv2⟩
             have hv2 : Below wr.heap.size wr v2 := by rw [hwv2]; exact hB.trans (below_drewN _ _)
             have rv2 : v2.heap[wr.heap.size]? = _ := (by rw [hwv2]; exact hA : v2.heap[wr.heap.size]? = some (.cells #[.string ⟨#[]⟩, .int .i64 0, .int .i64 0, .int .i64 0] 69 (0, 0)))
             clear hwv2
             refine hC.out _ _ (fun _ => hSall _ hv2) ?_
             clear hC C
             try simp only [Act.put, List.setIfInBounds_toArray, List.set_cons_zero, List.set_cons_succ]
             refine Ord.Till.step 24 (by kernel_rfl) rfl (fun C hC => ?_)
             go_simp
             go_at_call 62
             refine (HN3.out _ hv2).mono ?_
             rintro e v3 ⟨rfl, mv3, hwv3⟩
             have hv3 : Below wr.heap.size wr v3 := by rw [hwv3]; exact hv2.trans (below_drewN _ _)
             have rv3 : v3.heap[wr.heap.size]? = _ := (by rw [hwv3]; exact rv2 : v3.heap[wr.heap.size]? = some (.cells #[.string ⟨#[]⟩, .int .i64 0, .int .i64 0, .int .i64 0] 69 (0, 0)))
             clear hwv3
             refine hC.out _ _ (fun _ => hSall _ hv3) ?_
             clear hC C
             try simp only [Act.put, List.setIfInBounds_toArray, List.set_cons_zero, List.set_cons_succ]
             refine Ord.Till.take 25 (oi := _) (x := ?_) rfl (by kernel_rfl) (by kernel_rfl) (by kernel_rfl) (by kernel_rfl) (fun _ _ _ h => h) (by rfl) ?_ (hSall _ hv3) ?_
             rotate_left 1
             · intro v hv; obtain ⟨z1, z2', z3'⟩ := hv; go_simp; first | done | with_reducible rfl
             try simp only [Act.put, List.setIfInBounds_toArray, List.set_cons_zero, List.set_cons_succ]
             have k0 := cell_of_row v3 wr.heap.size 0 _ _ _ rv3
             have k1 := cell_of_row v3 wr.heap.size 1 _ _ _ rv3
             have k2 := cell_of_row v3 wr.heap.size 2 _ _ _ rv3
             have k3 := cell_of_row v3 wr.heap.size 3 _ _ _ rv3
             have kf := fun o => frozen_of_row v3 wr.heap.size o _ _ rv3
             have hrz := put4_row rv3 (.string ⟨ls.toArray⟩) (.int .i64 (u0.toNat : Int)) (.int .i64 (z2 : Int)) (.int .i64 (z3 : Int))
             have hbz := put4_below hv3 hg (.string ⟨ls.toArray⟩) (.int .i64 (u0.toNat : Int)) (.int .i64 (z2 : Int)) (.int .i64 (z3 : Int))
             unfold put4 at hrz hbz
             refine Ord.Till.step 27 (by kernel_rfl) rfl (fun C hC => ?_)
             go_simp
             refine hC.out _ _ (fun _ => hSall _ hbz) ?_
             clear hC C
             try simp only [Act.put, List.setIfInBounds_toArray, List.set_cons_zero, List.set_cons_succ]
             refine Ord.Till.done (by kernel_rfl) ?_ _
             clear k0 k1 k2 k3 kf
             go_wp2_with fail
             go_meet
             exact ⟨wr.heap.size, rfl, hrz, hg, hbz⟩
         case rest =>
           obtain ⟨g, rfl, hrg, hg, hbc⟩ := hcut
           have hP2 := HP.out.on hbc
           have e0 := cell_of_row _ g 0 _ _ _ hrg
           have e1 := cell_of_row _ g 1 _ _ _ hrg
           have e2 := cell_of_row _ g 2 _ _ _ hrg
           have e3 := cell_of_row _ g 3 _ _ _ hrg
           have hgc := (Array.getElem?_eq_some_iff.1 hrg).1
           have HSy := hid (rsym_any ⟨⟨ls.toArray⟩, (u0.toNat : Int), (z2 : Int), (z3 : Int)⟩ wc)
           simp only [Sy.val] at HSy
           have hl10 : a + 10 + u9.toNat ≤ n := by omega
           rw [Hx.out, Hk9.out] at HD2
           clear hSall hs1 hs2 hs3 ht1 ht2 ht3 HN2 HN3 hbX0 wa1 wa5 wa9 wa10 wu0 hbc hc0 hc9 i0 i9
           go_wp2_with fail
           refine HSy.out.mono ?_
           rintro e w5 ⟨rfl, hb5⟩
           have hP3 := hP2.on hb5
           have hrg5 := (hb5.block g hgc).trans hrg
           clear HSy e0 e1 e2 e3 hrg hP2 hb5
           have q0 := cell_of_row w5 w.heap.size 0 _ _ _ hP3.res
           have q1 := cell_of_row w5 w.heap.size 1 _ _ _ hP3.res
           have qf := fun o => frozen_of_row w5 w.heap.size o _ _ hP3.res
           have hl3 := load2 _ _ _ (put2_row hP3.res (.slice none 0 0) (.slice none 0 0)) rfl
           have hb3 := put2_below hP3.below (Nat.le_refl _) (.slice none 0 0) (.slice none 0 0)
           unfold put2 at hl3 hb3
           have m0 := cell_of_row w5 M 0 _ _ _ hP3.row
           have e0 := cell_of_row _ g 0 _ _ _ hrg5
           have e1 := cell_of_row _ g 1 _ _ _ hrg5
           have e2 := cell_of_row _ g 2 _ _ _ hrg5
           have e3 := cell_of_row _ g 3 _ _ _ hrg5
           cases hsy : symOk ⟨⟨ls.toArray⟩, (u0.toNat : Int), (z2 : Int), (z3 : Int)⟩
           · have hd : Hid (decO l = (12, [], [])) := hid (by rw [HD2.out, if_pos (.inr hsy)])
             go_wp2_with fail
             exact bodyPost_ret (v := .tuple #[.agg #[.slice none 0 0, .slice none 0 0], .int .i64 12]) (by simp [results, Tryz.results49, asAddr, hl3]) rfl (Decodes.bad hd.out hb3)
           · obtain ⟨A', c1', eA, hrdA, hkc1, _⟩ := hP3.own.reads
             injection eA with eA1 _ eA3
             subst eA1 eA3
             have HH := hid (rhas_any w5.heap.size A k c1 acc ⟨ls.toArray⟩ w5 (rds_of hrdA hP3.names) (by omega))
             cases hhs : has acc ⟨ls.toArray⟩
             · rw [hhs] at HH
               have HD3 : Hid (decO l = decL (q - (k + 1)) (acc ++ [⟨⟨ls.toArray⟩, (u0.toNat : Int), (z2 : Int), (z3 : Int)⟩]) (r.drop (10 + u9.toNat))) := hid (by rw [HD2.out, if_neg (by rw [hhs, hsy]; simp)])
               have Hown := hid hP3.own
               have hMw := (Array.getElem?_eq_some_iff.1 hP3.row).1
               have hrowM := hP3.row
               have HP3 := hid hP3
               clear hP3 hl3 hb3 hrdA HD2
               go_wp2_with (first
                 | (go_at_call 71; go_must (refine HH.out.mono ?_; rintro e w6 ⟨rfl, rfl⟩))
                 | (at_builtin; go_must (refine Cel.wpList_push kS_kind _ (M + 1) (.slice A k c1) k (scells acc) Hown.out hMw 1 1 #[.string ⟨ls.toArray⟩, .int .i64 (u0.toNat : Int), .int .i64 (z2 : Int), .int .i64 (z3 : Int)] (0, 0) rfl (by simp [Value.oneCell']) (by omega) (by omega) rfl (.tmp 101) (.tmp 103) rfl rfl rfl ?_); intro v7 w7 hown7 hb7 ho7 hf7; obtain ⟨A7, c7, rfl, _⟩ := hown7.reads; have hM7 := (hb7.block M (Nat.lt_succ_self M)).trans hrowM; have mm0 := cell_of_row _ M 0 _ _ _ hM7; have mmf := fun o => frozen_of_row _ M o _ _ hM7))
               have hP := HP3.out
               have hlt := hP.lt
               have hnew : RD w (w7.setCell ⟨M, 0, none⟩ (.slice A7 (k + 1) c7)) M q n l (k + 1) (a + 10 + u9.toNat) A7 c7 (acc ++ [⟨⟨ls.toArray⟩, (u0.toNat : Int), (z2 : Int), (z3 : Int)⟩]) := by
                 refine ⟨?_, heap_setCell_same w7 M 0 _ _ _ hM7, ?_, by rw [List.length_append, hP.len]; rfl, ?_, hP.lt, ?_, ?_, by omega⟩
                 · exact (Below.heap_setCell w7 ⟨M, 0, none⟩ _ w.heap.size (by show w.heap.size ≠ M; omega)).trans ((hb7.block w.heap.size (by omega)).trans hP.res)
                 · have e4 : scells acc ++ [.string ⟨ls.toArray⟩, .int .i64 (u0.toNat : Int), .int .i64 (z2 : Int), .int .i64 (z3 : Int)] = scells (acc ++ [⟨⟨ls.toArray⟩, (u0.toNat : Int), (z2 : Int), (z3 : Int)⟩]) := by rw [scells_append]; rfl
                   rw [← e4]
                   exact hown7.setc hM7 (by decide) 0 _
                 · intro y hy
                   rcases List.mem_append.1 hy with hy | hy
                   · exact hP.names y hy
                   · rw [List.mem_singleton] at hy
                     subst hy
                     show (str ls).size ≤ _
                     rw [str_size, Hls.out, List.length_take]
                     unfold maxLen
                     omega
                 · exact (hP.below.trans (hb7.mono (by omega))).setCell (p := ⟨M, 0, none⟩) (by show w.heap.size ≤ M; omega) _
                 · rw [HD3.out, hrr, List.drop_drop, Nat.add_assoc]
               have HN := hid hnew
               clear hnew hP HP3 hlt
               go_roundw
               · exact ⟨k + 1, a + 10 + u9.toNat, A7, c7, _, by go_num, by go_num, HN.out⟩
               · simp [intOf]; omega
             · rw [hhs] at HH
               have hd : Hid (decO l = (12, [], [])) := hid (by rw [HD2.out, if_pos (.inl hhs)])
               clear hrdA
               go_wp2_with (first
                 | (go_at_call 71; go_must (refine HH.out.mono ?_; rintro e w6 ⟨rfl, rfl⟩)))
               exact bodyPost_ret (v := .tuple #[.agg #[.slice none 0 0, .slice none 0 0], .int .i64 12]) (by simp [results, Tryz.results49, asAddr, hl3]) rfl (Decodes.bad hd.out hb3)
   · obtain rfl : k = q := by omega
     have hdd : Hid (decO l = (0, acc, l.drop a)) := hid (by rw [hP1.go, Nat.sub_self]; rfl)
     have hMw : M + 1 ≤ wr.heap.size := (Array.getElem?_eq_some_iff.1 hP1.row).1
     have hlt := hP1.lt
     have hNw : w.heap.size < wr.heap.size := by omega
     have hbe := (Below.refl wr.heap.size wr).alloc (Nat.le_refl _) (.cells #[] 5)
     have hP2 := hP1.on hbe
     have hKw : K ≤ wr.heap.size := Nat.le_trans hK hP1.below.size
     obtain ⟨p, hrun, hrd⟩ := slice_from (wr.alloc (.cells #[] 5)) K b o n c a l ((hr.below (hP1.below.mono hK)).below (hbe.mono hKw)) (by omega) hnc
     have hrun' := hrun
     have hlit := Byt.Own.lit0 wr (M + 1) hMw
     have hsz2 : M + 1 ≤ (wr.alloc (.cells #[] 5)).heap.size := by simp; omega
     have m1 := cell_of_row wr M 1 _ _ _ hP1.row
     have HP2 := hid hP2
     have Hrd := hid hrd
     have hai : (a : Int) ≤ (n : Int) := by omega
     clear hbe hP1 hP2 hrd
     go_wp2_with (at_builtin; go_must (refine wpList_app2 (wr.alloc (.cells #[] 5)) (M + 1) _ 0 [] hlit hsz2 (some ⟨b, p, none⟩) (n - a) (c - a) K (l.drop a) Hrd.out (by omega) rfl (.tmp 107) (.tmp 110) rfl rfl rfl ?_); intro v7 w7 ho7 hb7 ot7; obtain ⟨A7, c7, rfl, _⟩ := ho7.reads; have hM7 := (hb7.block M (Nat.lt_succ_self M)).trans HP2.out.row; have hN7 := (hb7.block w.heap.size (by omega)).trans HP2.out.res; have mm0 := cell_of_row w7 M 0 _ _ _ hM7; have mm1 := cell_of_row w7 M 1 _ _ _ hM7; have mmf := fun o => frozen_of_row w7 M o _ _ hM7; have nn0 := cell_of_row w7 w.heap.size 0 _ _ _ hN7; have nn1 := cell_of_row w7 w.heap.size 1 _ _ _ hN7; have nnf := fun o => frozen_of_row w7 w.heap.size o _ _ hN7; have hne : ¬ w.heap.size = M := (by omega); have hne' : ¬ M = w.heap.size := (by omega))
     have hP := HP2.out
     rw [Nat.zero_add, List.nil_append] at ho7
     have hM8 := heap_setCell_same w7 M 1 _ _ (.slice A7 (n - a) c7) hM7
     have hN8 := (Below.heap_setCell w7 ⟨M, 1, none⟩ (.slice A7 (n - a) c7) w.heap.size (by show w.heap.size ≠ M; omega)).trans hN7
     have hN9 := heap_setCell_same _ w.heap.size 0 _ _ (.slice A k c1) hN8
     have hl9 := load2 _ _ _ (put2_row hN8 (.slice A k c1) (.slice A7 (n - a) c7)) rfl
     have hb7' : Below w.heap.size w w7 := hP.below.trans (hb7.mono (by omega))
     have hb9 := put2_below (hb7'.setCell (p := ⟨M, 1, none⟩) (by show w.heap.size ≤ M; omega) (.slice A7 (n - a) c7)) (Nat.le_refl _) (.slice A k c1) (.slice A7 (n - a) c7)
     have hc9 := ((((hP.own.oth ot7 (by decide)).setc hM7 (by decide) 1 (.slice A7 (n - a) c7)).setc hN8 (by decide) 0 (.slice A k c1)).setc hN9 (by decide) 1 (.slice A7 (n - a) c7)).more (K' := w.heap.size) (by omega)
     have ho9 := (((ho7.oth (Sls.Oth.put hM7 (fun k hk => Below.heap_setCell w7 ⟨M, 1, none⟩ (.slice A7 (n - a) c7) k hk)) (by decide)).oth (Sls.Oth.put hN8 (fun j hj => Below.heap_setCell _ ⟨w.heap.size, 0, none⟩ (.slice A k c1) j hj)) (by decide)).oth (Sls.Oth.put hN9 (fun k hk => Below.heap_setCell _ ⟨w.heap.size, 1, none⟩ (.slice A7 (n - a) c7) k hk)) (by decide)).more (K' := w.heap.size) (by omega)
     have hd := hdd.out
     unfold put2 at hl9 hb9
     exact bodyPost_ret (v := .tuple #[.agg #[.slice A k c1, .slice A7 (n - a) c7], .int .i64 0]) (by simp [results, Tryz.results49, asAddr, hl9]) rfl ⟨A, k, c1, A7, n - a, c7, by rw [hd], by rw [hd]; exact hc9, by rw [hd]; exact ho9, hb9⟩
end Go.Proofs.YtjobmkodgodloaaGreatDoor.Obj

namespace Go.Proofs.YtjobmkodgodloaaGreatDoor.Obj
open Go.RowKit Go.Proofs Go.Proofs.YtjobmkodgodloaaGreatDoor.Byt
open Go.Proofs.YtjobmkodgodloaaGreatDoor.Sls (Oth)

theorem decode_any (K : Nat) (A : Option Addr) (n c : Nat) (l : List UInt8) (w : World) (hr : Byt.Rd w K A n l) (hK : K ≤ w.heap.size) (hnc : n ≤ c) (hc : c ≤ maxLen) (hn : n ≤ 140737488355328) :
   Calls Tryz.prog 79 #[.slice A n c] w (Decodes l w) := by
 by_cases h4 : n < 4
 · exact decode_2 w A n c l hr.1 h4
 · obtain ⟨b, o, rfl, _⟩ := hr.2 0 (by have := hr.1; omega)
   exact decode_go w K b o n c l hr hK hnc hc (by omega) hn
theorem rdecode_any (K : Nat) (A : Option Addr) (n c : Nat) (l : List UInt8) (w : World) (hr : Byt.Rd w K A n l) (hK : K ≤ w.heap.size) (hnc : n ≤ c) (hn : n ≤ 1000000) :
   Calls Tryz.prog 49 #[.slice A n c] w (Decodes l w) := by
 by_cases h4 : n < 4
 · exact rdecode_2 w A n c l hr.1 h4
 · obtain ⟨b, o, rfl, _⟩ := hr.2 0 (by have := hr.1; omega)
   by_cases hm : l.take 4 = magic
   · by_cases h8 : n < 8
     · exact rdecode_early w K b o n c l hr hK hnc (by omega) (.inr (.inl ⟨hm, h8⟩))
     · by_cases hb : 65536 < n4 (l.drop 4)
       · exact rdecode_early w K b o n c l hr hK hnc (by omega) (.inr (.inr ⟨hm, by omega, hb⟩))
       · exact rdecode_go w K b o n c l hr hK hnc hn (by omega) hm hb
   · exact rdecode_early w K b o n c l hr hK hnc (by omega) (.inl hm)

theorem validO_names {xs : List Sy} (h : validO xs = true) : xs.length ≤ 65536 ∧ ∀ x ∈ xs, x.name.size ≤ maxLen := by
 unfold validO at h
 rw [Bool.and_eq_true, decide_eq_true_eq] at h
 refine ⟨h.1, fun x hx => ?_⟩
 have h1 := goodL_all h.2 x hx
 unfold symOk at h1
 rw [Bool.and_eq_true] at h1
 have := (nameOk_range h1.1).2
 unfold maxLen
 omega
theorem decO_known (l : List UInt8) : (decO l).2.1.length ≤ 65536 ∧ (∀ x ∈ (decO l).2.1, x.name.size ≤ maxLen) ∧ (decO l).2.2.length ≤ l.length := by
 by_cases h : (decO l).1 = 0
 · have h1 := enc_decO l (decO l).2.1 (decO l).2.2 (by rw [← h])
   obtain ⟨h2, h3⟩ := validO_names h1.1
   refine ⟨h2, h3, ?_⟩
   have h4 := congrArg List.length h1.2
   unfold encO at h4
   simp only [List.length_append] at h4
   omega
 · rw [decO_bad l h]
   exact ⟨by simp, by simp, by simp⟩
theorem Decodes.reads {l : List UInt8} {w w' : World} {e : Ending} (h : Decodes l w e w') :
   ∃ A n c B m d, e = .returned (.tuple #[.agg #[.slice A n c, .slice B m d], .int .i64 (decO l).1]) ∧ RdS w' w'.heap.size A n (decO l).2.1 ∧ Byt.Rd w' w'.heap.size B m (decO l).2.2 ∧ n ≤ c ∧ n ≤ 65536 ∧ m ≤ l.length ∧ Byt.Own w' w.heap.size (.slice B m d) m (decO l).2.2 ∧ Cel.Own 69 4 w' w.heap.size (.slice A n c) n (scells (decO l).2.1) ∧ Below w.heap.size w w' := by
 obtain ⟨A, n, c, B, m, d, he, hs, ho, hb⟩ := h
 obtain ⟨k1, k2, k3⟩ := decO_known l
 obtain ⟨A', c', e1, hrs, hnc, _⟩ := hs.reads
 obtain ⟨B', d', e2, hro, _, _⟩ := ho.reads
 injection e1 with e11 _ e13
 injection e2 with e21 _ e23
 subst e11 e13 e21 e23
 have hn := (rds_of hrs k2).1
 have hm := hro.1
 exact ⟨A, n, c, B, m, d, he, rds_of hrs k2, hro, hnc, by omega, by omega, ho, hs, hb⟩

theorem Encodes.ok {xs : List Sy} {body : List UInt8} {w w' : World} {e : Ending} (h : Encodes xs body w e w') (hv : validO xs = true) :
   ∃ A n c, e = .returned (.tuple #[.slice A n c, .int .i64 0]) ∧ n = (encO xs body).length ∧ Byt.Own w' w.heap.size (.slice A n c) n (encO xs body) ∧ Byt.Rd w' w'.heap.size A n (encO xs body) ∧ n ≤ c ∧ c ≤ maxLen ∧ Below w.heap.size w w' := by
 obtain ⟨hb, ⟨_, v, n, he, ho⟩ | ⟨h0, _⟩⟩ := h
 · obtain ⟨A, c, rfl, hr, hc, hm⟩ := ho.reads
   exact ⟨A, n, c, he, hr.1.symm, ho, hr, hc, hm, hb⟩
 · rw [hv] at h0
   cases h0
theorem Encodes.no {xs : List Sy} {body : List UInt8} {w w' : World} {e : Ending} (h : Encodes xs body w e w') (hv : validO xs = false) :
   e = .returned (.tuple #[.slice none 0 0, .int .i64 12]) ∧ Below w.heap.size w w' := by
 obtain ⟨hb, ⟨h0, _⟩ | ⟨_, he⟩⟩ := h
 · rw [hv] at h0
   cases h0
 · exact ⟨he, hb⟩
theorem rd_row {w : World} {b K n sz : Nat} {cs : List Value} {t : TypeId} {m : Nat × Nat} (h : w.heap[b]? = some (.cells cs.toArray t m)) (hK : b < K) (hl : cs.length = n * sz) : Cel.Rd w K (some ⟨b, 0, none⟩) n sz cs :=
 ⟨hl, fun k hk => ⟨b, 0, rfl, hK, by rw [cell_of_row w b (0 + k) _ _ _ h, Nat.zero_add]; simp [List.getElem?_eq_getElem hk]⟩⟩
end Go.Proofs.YtjobmkodgodloaaGreatDoor.Obj
