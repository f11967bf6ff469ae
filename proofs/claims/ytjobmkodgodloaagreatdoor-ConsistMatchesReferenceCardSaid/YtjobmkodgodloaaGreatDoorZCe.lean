/-
  consist's reference: opening.
  consist: what opening gives of archives that were written (mathematics); the contracts of the program as the laws take them.
-/
import Derived.Test.YtjobmkodgodloaaGreatDoorZCa
import Derived.Test.YtjobmkodgodloaaGreatDoorZP5a
import Derived.BigQuiet
import Derived.Test.YtjobmkodgodloaaGreatDoorZSe
namespace Go.Proofs.YtjobmkodgodloaaGreatDoor.Con
open Go.RowKit Go.Proofs Go.Proofs.YtjobmkodgodloaaGreatDoor.Byt
open Go.Proofs.YtjobmkodgodloaaGreatDoor.Sls (Oth)
open Go.Proofs.YtjobmkodgodloaaGreatDoor.Arp (Mem St Pm ar Arc RdA RdM RdI OwnM OwnA sameMs mcells load_four)
open Go.Proofs.YtjobmkodgodloaaGreatDoor.Six (defs defs_len rdefs_any rdm_cell RdL OwnL kSS DefsP)
open Go.Proofs.YtjobmkodgodloaaGreatDoor.Amp (En RdE ecells decZ decE sameE)

def OpnP (l : List UInt8) (w : World) (e : Ending) (w' : World) : Prop :=
 ∃ v : Vw, e = .returned (.tuple #[v.val, .int .i64 ((opn l).2.1 : Nat), .int .i64 (opn l).2.2]) ∧ v.is (opn l).1 ∧ Cel.Own 64 6 w' w.heap.size (.slice v.mp v.mn v.mc) v.mn (mcells v.mems) ∧ OwnM w' w.heap.size v.mems ∧ RdV w' w'.heap.size v ∧ Below w.heap.size w w'
def Vw.zero : Vw := ⟨none, 0, 0, [], none, 0, 0, []⟩
theorem OpnP.bad {l : List UInt8} {w w' : World} {k : Nat} {z : Int} (h : opn l = (St.zero, k, z)) (hb : Below w.heap.size w w') :
   OpnP l w (.returned (.tuple #[.agg #[.slice none 0 0, .slice none 0 0], .int .i64 (k : Int), .int .i64 z])) w' :=
 ⟨Vw.zero, by rw [h]; rfl, by rw [h]; exact ⟨rfl, rfl⟩, Cel.Own.nil _ _ _ _, fun x hx => by simp [Vw.zero] at hx, ⟨RdM.nil _ _ _, ⟨rfl, fun k hk => absurd hk (by simp [Vw.zero])⟩, by show (0 : Nat) ≤ _; omega, by show (0 : Nat) ≤ _; omega, fun d hd => by simp [Vw.zero] at hd⟩, hb⟩

def set2 (W : World) (B : Nat) (v0 v1 : Value) : World := (W.setCell ⟨B, 0, none⟩ v0).setCell ⟨B, 1, none⟩ v1
theorem set2_row {W : World} {B : Nat} {a b : Value} {t : TypeId} (h : W.heap[B]? = some (.cells #[a, b] t (0, 0))) (v0 v1 : Value) : (set2 W B v0 v1).heap[B]? = some (.cells #[v0, v1] t (0, 0)) :=
 heap_setCell_same _ B 1 _ _ v1 (heap_setCell_same W B 0 _ _ v0 h)
theorem set2_ne {W : World} {B : Nat} (v0 v1 : Value) (g : Nat) (hg : g ≠ B) : (set2 W B v0 v1).heap[g]? = W.heap[g]? := by
 unfold set2
 rw [Below.heap_setCell _ ⟨B, 1, none⟩ _ g hg, Below.heap_setCell _ ⟨B, 0, none⟩ _ g hg]
theorem set2_below {w W : World} {K B : Nat} (h : Below K w W) (hB : K ≤ B) (v0 v1 : Value) : Below K w (set2 W B v0 v1) :=
 (h.setCell (p := ⟨B, 0, none⟩) hB v0).setCell (p := ⟨B, 1, none⟩) hB v1
theorem load_view (w : World) (B : Nat) (cs : Array Value) (h : w.heap[B]? = some (.cells cs 31 (0, 0))) (hs : cs.size = 2) :
   (loadVar 31 ⟨B, 0, none⟩).run Tryz.prog w = .ok (.agg cs) w :=
 run_loadVar_row w B 31 31 cs (0, 0) _ h Tryz.underlying31 rfl (by rw [hs]; kernel_rfl)

theorem OwnL.keep {w w' : World} {K n : Nat} {v : Value} {xs : List (List ByteArray)} (h : OwnL w K v n xs) (hk : ∀ g, K ≤ g → g < w.heap.size → w'.heap[g]? = w.heap[g]?) : OwnL w' K v n xs := by
 obtain ⟨vs, h1, h2, h3⟩ := h
 exact ⟨vs, h1.keep hk, h2, fun k a b => (h3 k a b).keep hk⟩
theorem OwnL.more {w : World} {K K' n : Nat} {v : Value} {xs : List (List ByteArray)} (h : OwnL w K v n xs) (hK : K' ≤ K) : OwnL w K' v n xs := by
 obtain ⟨vs, h1, h2, h3⟩ := h
 exact ⟨vs, h1.more hK, h2, fun k a b => (h3 k a b).more hK⟩
theorem defsP_take {xs : List Pm} {k : Nat} (hk : k < xs.length) : (defsP xs).take (k + 1) = (defsP xs).take k ++ [defs xs[k].data] := by
 have h1 : k < (defsP xs).length := by simp [defsP]; exact hk
 rw [List.take_succ_eq_append_getElem h1]
 simp [defsP]
theorem defsP_small {xs : List Pm} (h : sumP xs ≤ 100000) : ∀ d ∈ defsP xs, d.length ≤ 140737488355328 := fun d hd => by
 obtain ⟨x, hx, rfl⟩ := List.mem_map.1 hd
 have h1 := sumP_mem hx
 have h2 := defs_len x.data
 omega
theorem view_lst : (31 : Nat) ≠ 61 := by decide

set_option linter.unusedSimpArgs false in
set_option maxRecDepth 100000 in
set_option maxHeartbeats 8000000 in
theorem ropen_any (A : Option Addr) (n c : Nat) (l : List UInt8) (w : World) (hr : Byt.Rd w w.heap.size A n l) (hnc : n ≤ c) (hn : n < 100000) :
   Calls Tryz.prog 10 #[.slice A n c] w (OpnP l w) := by
 obtain ⟨s, k0, z, har⟩ : ∃ s k z, ar l = (s, k, z) := ⟨_, _, _, rfl⟩
 have HAR := hid har
 have Hll : Hid (l.length ≤ 100000) := hid (by rw [hr.1]; omega)
 have hrg := heap_alloc_new w (.cells #[.slice none 0 0, .slice none 0 0] 31)
 have hb0 := (Below.refl w.heap.size w).alloc (Nat.le_refl _) (.cells #[.slice none 0 0, .slice none 0 0] 31)
 have hs0 := World.size_alloc w (.cells #[.slice none 0 0, .slice none 0 0] 31)
 have HPr := hid (Arp.rparse_any A n c l _ ((hr.below hb0).more hb0.size) hnc hn)
 clear hr hnc har
 go_enter Tryz.func10, Tryz.ntmps10
 go_wp2_with fail
 generalize w.alloc (.cells #[.slice none 0 0, .slice none 0 0] 31) = w0 at *
 refine HPr.out.mono ?_
 rintro e w1 ⟨X, rfl, hx, ho, hb1⟩
 rw [HAR.out] at hx ⊢
 simp only at hx ⊢
 obtain ⟨xh, mp, mn, mc, xm, ap, an, ac, xms, op, on, oc, xos⟩ := X
 have B1 := hb0.trans (hb1.mono hb0.size)
 have hrg1 := (hb1.block w.heap.size (by omega)).trans hrg
 have hg1 : w.heap.size < w1.heap.size := by have := hb1.size; omega
 obtain ⟨G, hG⟩ : ∃ G, w.heap.size = G := ⟨_, rfl⟩
 have HX := hid hx
 have HO := hid ho
 have hrb := heap_alloc_new w1 (.cells #[.bool xh, .slice mp mn mc, .slice ap an ac, .slice op on oc] 41)
 have hb2 := (Below.refl w1.heap.size w1).alloc (Nat.le_refl _) (.cells #[.bool xh, .slice mp mn mc, .slice ap an ac, .slice op on oc] 41)
 have hs2 := World.size_alloc w1 (.cells #[.bool xh, .slice mp mn mc, .slice ap an ac, .slice op on oc] 41)
 simp only [Arp.Arc.val]
 clear HPr hx ho hrg hb0
 go_upto_region 2 with fail
 generalize w1.alloc (.cells #[.bool xh, .slice mp mn mc, .slice ap an ac, .slice op on oc] 41) = w2 at *
 have B2 := B1.trans (hb2.mono B1.size)
 have hrg2 := (hb2.block w.heap.size (by omega)).trans hrg1
 rw [hG] at hrg2 hrg1 hg1 hs0 ⊢
 obtain ⟨B, hB⟩ : ∃ B, w1.heap.size = B := ⟨_, rfl⟩
 rw [hB] at hrb hs2 hg1 ⊢
 have HRB := hid hrb
 have HRG := hid hrg2
 by_cases hz : z = 0
 · have hzb : (z != 0) = false := by rw [hz]; rfl
   have HA0 : Hid (ar l = (s, k0, 0)) := hid (by rw [← hz]; exact HAR.out)
   have HA := hid ((argA_of HO.out HX.out HA0.out Hll.out).on hb2)
   have HC := hid (rcheck_any ⟨xh, mp, mn, mc, xm, ap, an, ac, xms, op, on, oc, xos⟩ w1.heap.size w2 HA.out s HX.out)
   have hlt2 : B < w2.heap.size := by omega
   have hc0 := cell_of_row _ B 0 _ _ _ hrb
   have hc1 := cell_of_row _ B 1 _ _ _ hrb
   have hc2 := cell_of_row _ B 2 _ _ _ hrb
   have hc3 := cell_of_row _ B 3 _ _ _ hrb
   simp only [Arp.Arc.val] at HC
   rw [hB] at HA
   have HO2 := hid (HO.out.below hb2)
   clear hz hrg1 hrg2 HAR HO B1 hb1 hb2 hrb
   go_wp2_with fail
   refine HC.out.mono ?_
   rintro e w3 ⟨rfl, hb3⟩
   have hk3 := hb3.size
   have B3 := B2.trans (hb3.mono B2.size)
   have HRB3 := hid ((hb3.block B hlt2).trans HRB.out)
   have HRG3 := hid ((hb3.block G (by omega)).trans HRG.out)
   have HA3 := hid (HA.out.on hb3)
   have HO3 := hid (HO2.out.below hb3)
   have Hchk := hid (opn_chk HA0.out)
   have Hopn := hid (opn_ok HA0.out)
   clear HC HA HO2 hb3 B2 HRB HRG hc0 hc1 hc2 hc3
   generalize chk s = cz at *
   by_cases hcz : cz = 0
   · have hczb : (cz != 0) = false := by rw [hcz]; rfl
     have HOp := hid (Hopn.out hcz)
     have hc2 := cell_of_row _ B 2 _ _ _ HRB3.out
     have hrv := heap_alloc_new w3 (.cells #[.slice ap an ac, .slice none 0 0] 31)
     have hb4 := (Below.refl w3.heap.size w3).alloc (Nat.le_refl _) (.cells #[.slice ap an ac, .slice none 0 0] 31)
     have hs4 := World.size_alloc w3 (.cells #[.slice ap an ac, .slice none 0 0] 31)
     have han : an ≤ 140737488355328 := HO3.out.small.2.1
     clear hcz Hchk Hopn
     go_upto_region 8 with fail
     generalize w3.alloc (.cells #[.slice ap an ac, .slice none 0 0] 31) = w4 at *
     have B4 := B3.trans (hb4.mono B3.size)
     have HRB4 := hid ((hb4.block B (by omega)).trans HRB3.out)
     have HRG4 := hid ((hb4.block G (by omega)).trans HRG3.out)
     have HA4 := hid (HA3.out.on hb4)
     have HO4 := hid (HO3.out.below hb4)
     have H34 : Hid (∀ g, g < w3.heap.size → w4.heap[g]? = w3.heap[g]?) := hid fun g h => hb4.block g h
     obtain ⟨V, hV⟩ : ∃ V, w3.heap.size = V := ⟨_, rfl⟩
     rw [hV] at hrv hs4 hk3 H34 ⊢
     have HRV := hid hrv
     have Hsum : Hid (sumP s.mems ≤ 100000) := hid (by rw [← HX.out.2.2.1]; exact HA4.out.tot)
     have HMl : Hid (xms.length = an) := hid HA4.out.rd.2.1.1
     have HTot : Hid (sumP (xms.map Mem.pure) ≤ 100000) := hid HA4.out.tot
     have HCap : Hid (∀ m ∈ xms, m.len ≤ m.cap ∧ m.cap ≤ maxLen) := hid HA4.out.cap
     have HMem : Hid (RdM w4 B ap an xms) := hid HA4.out.rd.2.1
     have Hln : Hid (s.mems.length = an) := hid (by rw [← HX.out.2.2.1, List.length_map]; exact HA4.out.rd.2.1.1)
     have hdn : an ≤ 100000 := by
       have h1 := Hln.out
       have h2 := HO4.out.offs
       have h3 := (Arp.ar_fit HA0.out).2.2.2
       have h0 := (Arp.ar_fit HA0.out).1
       have h4 := HA0.out
       rw [h0] at h4
       exact Nat.le_trans (by rw [← h1]; exact Arp.ar_count h4) Hll.out
     clear hc2 hrv HRB3 HRG3 HA3 hb4 B3
     go_wp2_with fail
     go_loopw [10] (fun iv W => ∃ (k : Nat) (D : Option Addr) (dc : Nat), iv = .int .i64 (k : Int) ∧ k ≤ an ∧ W.heap[V]? = some (.cells #[.slice ap an ac, .slice D k dc] 31 (0, 0)) ∧ OwnL W (V + 1) (.slice D k dc) k ((defsP s.mems).take k) ∧ Below V w4 W) (fun iv _ => an - (intOf iv).toNat)
     case atStart => exact ⟨0, none, 0, rfl, by omega, HRV.out, OwnL.of (Cel.Own.nil _ _ _ _), Below.refl _ _⟩
     case round =>
       obtain ⟨k, D, dc, rfl, hk, hrV, hL, hb⟩ := hrel
       have hrB := (hb.block B (by omega)).trans HRB4.out
       have eB := cell_of_row _ B 2 _ _ _ hrB
       by_cases hlt : k < an
       · have hki : (k : Int) < (an : Int) := by omega
         have hkl : k < xms.length := by have := HMl.out; omega
         have hks : k < s.mems.length := by have := Hln.out; omega
         have hMr := HMem.out.below (hb.mono (by omega))
         obtain ⟨b, o, rfl, hbK, hcell, hrd⟩ := rdm_cell hMr hkl
         obtain ⟨hx3, hx4⟩ := HCap.out _ (List.getElem_mem hkl)
         have hx1 : xms[k].len ≤ 100000 := by
           have h1 := sumP_mem (xs := xms.map Mem.pure) (x := xms[k].pure) (List.mem_map_of_mem (List.getElem_mem hkl))
           have h2 := HTot.out
           have h3 := hrd.1
           have h4 : xms[k].pure.data.length = xms[k].data.length := rfl
           omega
         have hdata : s.mems[k].data = xms[k].data := by
           have h1 : s.mems[k] = xms[k].pure := by
             have h2 := HX.out.2.2.1
             have h3 : (xms.map Mem.pure)[k]'(by rw [List.length_map]; exact hkl) = xms[k].pure := List.getElem_map ..
             rw [← h3]
             congr 1
             exact h2.symm
           rw [h1]
           rfl
         have HT := hid (defsP_take hks)
         rw [hdata] at HT
         have HC := hid fun (W : World) (hW : Below wr.heap.size wr W) => rdefs_any B xms[k].ptr xms[k].len xms[k].cap xms[k].data W (hrd.below (hW.mono (by have := hb.size; omega))) (by have := hb.size; have := hW.size; omega) hx3 hx1
         have hbd : Below wr.heap.size wr wr.drew := (Below.refl _ _).drew
         have hVs : V < wr.heap.size := (Array.getElem?_eq_some_iff.1 hrV).1
         have hL1 := hL.below hbd
         have hrV1 := (hbd.block V hVs).trans hrV
         have hb1 := hb.trans (hbd.mono (by omega))
         have hcell1 := (hbd.cell (p := ⟨b, o + k * 6 + 5, none⟩) (by show b < _; omega)).trans hcell
         have HRB5 := HRB4
         generalize xms[k].data = xd at *
         generalize xms[k].ptr = xp at *
         generalize xms[k].len = xn at *
         generalize xms[k].cap = xc at *
         clear hL hrV hb hMr hrd hx1 hx3 hx4 hcell hdata hks hrB
         go_wp2_with fail
         clear eB
         have hS1 : (fun W' => W'.cell? ⟨V, 1, none⟩ = some (.slice D k dc) ∧ W'.cell? ⟨B, 2, none⟩ = some (.slice (some ⟨b, o, none⟩) an ac) ∧ W'.cell? ⟨b, o + k * 6 + 5, none⟩ = some (.slice xp xn xc)) wr.drew := ⟨cell_of_row _ V 1 _ _ _ hrV1, cell_of_row _ B 2 _ _ _ ((hb1.block B (by omega)).trans HRB5.out), hcell1⟩
         refine Ord.Till.begin (fun W' => W'.cell? ⟨V, 1, none⟩ = some (.slice D k dc) ∧ W'.cell? ⟨B, 2, none⟩ = some (.slice (some ⟨b, o, none⟩) an ac) ∧ W'.cell? ⟨b, o + k * 6 + 5, none⟩ = some (.slice xp xn xc)) 12 (by kernel_rfl) ?_
         have hkd : wr.heap.size ≤ wr.drew.heap.size := hbd.size
         generalize wr.drew = wd at *
         refine Ord.Till.take' 0 (some 38) (oi := _) (x := ?_) rfl rfl (by kernel_rfl) (by kernel_rfl) (by kernel_rfl) (by kernel_rfl) (fun _ _ _ h => h) (by kernel_rfl) ?_ hS1 ?_
         rotate_left 1
         · intro v hv; obtain ⟨z0, z1, z2⟩ := hv; go_simp; first | done | with_reducible rfl
         try simp only [List.getElem_toArray, List.getElem_cons_zero, List.getElem_cons_succ, Act.put, List.setIfInBounds_toArray, List.set_cons_zero, List.set_cons_succ]
         refine Ord.Till.take' 1 (some 39) (oi := _) (x := ?_) rfl rfl (by kernel_rfl) (by kernel_rfl) (by kernel_rfl) (by kernel_rfl) (fun _ _ _ h => h) (by kernel_rfl) ?_ hS1 ?_
         rotate_left 1
         · intro v hv; obtain ⟨z0, z1, z2⟩ := hv; go_simp; first | done | with_reducible rfl
         try simp only [List.getElem_toArray, List.getElem_cons_zero, List.getElem_cons_succ, Act.put, List.setIfInBounds_toArray, List.set_cons_zero, List.set_cons_succ]
         refine Ord.Till.take' 2 (some 40) (oi := _) (x := ?_) rfl rfl (by kernel_rfl) (by kernel_rfl) (by kernel_rfl) (by kernel_rfl) (fun _ _ _ h => h) (by kernel_rfl) ?_ hS1 ?_
         rotate_left 1
         · intro v hv; obtain ⟨z0, z1, z2⟩ := hv; go_simp; first | done | with_reducible rfl
         try simp only [List.getElem_toArray, List.getElem_cons_zero, List.getElem_cons_succ, Act.put, List.setIfInBounds_toArray, List.set_cons_zero, List.set_cons_succ]
         refine Ord.Till.take' 3 (some 41) (oi := _) (x := ?_) rfl rfl (by kernel_rfl) (by kernel_rfl) (by kernel_rfl) (by kernel_rfl) (fun _ _ _ h => h) (by kernel_rfl) ?_ hS1 ?_
         rotate_left 1
         · intro v hv; obtain ⟨z0, z1, z2⟩ := hv; go_simp; first | done | with_reducible rfl
         try simp only [List.getElem_toArray, List.getElem_cons_zero, List.getElem_cons_succ, Act.put, List.setIfInBounds_toArray, List.set_cons_zero, List.set_cons_succ]
         refine Ord.Till.take' 4 (some 42) (oi := _) (x := ?_) rfl rfl (by kernel_rfl) (by kernel_rfl) (by kernel_rfl) (by kernel_rfl) (fun _ _ _ h => h) (by kernel_rfl) ?_ hS1 ?_
         rotate_left 1
         · intro v hv; obtain ⟨z0, z1, z2⟩ := hv; go_simp; first | done | with_reducible rfl
         try simp only [List.getElem_toArray, List.getElem_cons_zero, List.getElem_cons_succ, Act.put, List.setIfInBounds_toArray, List.set_cons_zero, List.set_cons_succ]
         refine Ord.Till.take' 5 (some 43) (oi := _) (x := ?_) rfl rfl (by kernel_rfl) (by kernel_rfl) (by kernel_rfl) (by kernel_rfl) (fun _ _ _ h => h) (by kernel_rfl) ?_ hS1 ?_
         rotate_left 1
         · intro v hv; obtain ⟨z0, z1, z2⟩ := hv; go_simp; first | done | with_reducible rfl
         try simp only [List.getElem_toArray, List.getElem_cons_zero, List.getElem_cons_succ, Act.put, List.setIfInBounds_toArray, List.set_cons_zero, List.set_cons_succ]
         refine Ord.Till.take' 6 (some 44) (oi := _) (x := ?_) rfl rfl (by kernel_rfl) (by kernel_rfl) (by kernel_rfl) (by kernel_rfl) (fun _ _ _ h => h) (by kernel_rfl) ?_ hS1 ?_
         rotate_left 1
         · intro v hv; obtain ⟨z0, z1, z2⟩ := hv; go_simp; first | done | with_reducible rfl
         try simp only [List.getElem_toArray, List.getElem_cons_zero, List.getElem_cons_succ, Act.put, List.setIfInBounds_toArray, List.set_cons_zero, List.set_cons_succ]
         refine Ord.Till.take' 7 (some 45) (oi := _) (x := ?_) rfl rfl (by kernel_rfl) (by kernel_rfl) (by kernel_rfl) (by kernel_rfl) (fun _ _ _ h => h) (by kernel_rfl) ?_ hS1 ?_
         rotate_left 1
         · intro v hv; obtain ⟨z0, z1, z2⟩ := hv; go_simp; first | done | with_reducible rfl
         try simp only [List.getElem_toArray, List.getElem_cons_zero, List.getElem_cons_succ, Act.put, List.setIfInBounds_toArray, List.set_cons_zero, List.set_cons_succ]
         refine Ord.Till.step 8 (by kernel_rfl) rfl (fun C hC => ?_)
         go_simp
         go_at_call 26
         refine (HC.out _ hbd).mono ?_
         rintro e w5 hD
         obtain ⟨A5, n5, c5, rfl, hn5, o5, _, hc5, hm5, hb5⟩ := hD.reads
         have hL2 := hL1.below hb5
         have hrV2 := (hb5.block V (by omega)).trans hrV1
         have hb2 := hb1.trans (hb5.mono (by omega))
         have hk5 := hb5.size
         have hcell2 := (hb5.cell (p := ⟨b, o + k * 6 + 5, none⟩) (by show b < _; omega)).trans hcell1
         have hS2 : (fun W' => W'.cell? ⟨V, 1, none⟩ = some (.slice D k dc) ∧ W'.cell? ⟨B, 2, none⟩ = some (.slice (some ⟨b, o, none⟩) an ac) ∧ W'.cell? ⟨b, o + k * 6 + 5, none⟩ = some (.slice xp xn xc)) w5 := ⟨cell_of_row _ V 1 _ _ _ hrV2, cell_of_row _ B 2 _ _ _ ((hb2.block B (by omega)).trans HRB5.out), hcell2⟩
         have o5' : Sls.Own w5 (V + 1) (.slice A5 n5 c5) (defs xd).length (defs xd) := by rw [← hn5]; exact o5.more (by omega)
         clear hD hL1 hrV1 hb1 hb5 hS1 hcell1 o5 hn5
         go_wp2_with fail
         refine hC.out _ _ (fun _ => hS2) ?_
         clear hC C
         try simp only [List.getElem_toArray, List.getElem_cons_zero, List.getElem_cons_succ, Act.put, List.setIfInBounds_toArray, List.set_cons_zero, List.set_cons_succ]
         refine Ord.Till.step 9 (by kernel_rfl) rfl (fun C hC => ?_)
         go_simp
         have hbA := (Below.refl w5.heap.size w5).alloc (Nat.le_refl _) (.cells #[.slice A5 n5 c5] 61)
         have hnew := heap_alloc_new w5 (.cells #[.slice A5 n5 c5] 61)
         have hsA := World.size_alloc w5 (.cells #[.slice A5 n5 c5] 61)
         have hL3 := hL2.below hbA
         have hrV3 := (hbA.block V (by omega)).trans hrV2
         have hb3 := hb2.trans (hbA.mono (by omega))
         have o6 := o5'.below hbA
         have hcell3 := (hbA.cell (p := ⟨b, o + k * 6 + 5, none⟩) (by show b < _; omega)).trans hcell2
         have hS3 : (fun W' => W'.cell? ⟨V, 1, none⟩ = some (.slice D k dc) ∧ W'.cell? ⟨B, 2, none⟩ = some (.slice (some ⟨b, o, none⟩) an ac) ∧ W'.cell? ⟨b, o + k * 6 + 5, none⟩ = some (.slice xp xn xc)) (w5.alloc (.cells #[.slice A5 n5 c5] 61)) := ⟨cell_of_row _ V 1 _ _ _ hrV3, cell_of_row _ B 2 _ _ _ ((hb3.block B (by omega)).trans HRB5.out), hcell3⟩
         refine hC.out _ _ (fun _ => hS3) ?_
         clear hC C hL2 hrV2 hb2 hbA hS2 hcell2 o5'
         try simp only [List.getElem_toArray, List.getElem_cons_zero, List.getElem_cons_succ, Act.put, List.setIfInBounds_toArray, List.set_cons_zero, List.set_cons_succ]
         obtain ⟨vs, hcel, hlen, hel⟩ := hL3
         refine Ord.Till.step 10 (by kernel_rfl) rfl (fun C hC => ?_)
         refine Cel.step_app kSS _ (V + 1) (.slice D k dc) k _ hcel (by rw [hsA]; omega) ⟨w5.heap.size, 0, none⟩ 1 1 [.slice A5 n5 c5] rfl (by simp [Value.oneCell']) (World.news_of_block (cs := #[.slice A5 n5 c5]) (t := 61) (fr := (0, 0)) hnew) (by omega) (by omega) rfl (.tmp 39) (.tmp 47) rfl rfl rfl ?_
         intro v6 w6 ho6 hb6 hot6 _
         obtain ⟨A6, c6, rfl, _⟩ := ho6.reads
         have hL4 := OwnL.push hlen hel o6 ho6 hot6
         rw [← HT.out] at hL4
         have hrV4 := hot6 _ _ hrV3 (fun _ _ q => by injection q with _ q2; exact view_lst q2)
         have hb4 := hb3.trans (hb6.mono (by omega))
         have hk6 := hb6.size
         have hcell4 := (hb6.cell (p := ⟨b, o + k * 6 + 5, none⟩) (by show b < _; omega)).trans hcell3
         have hS4 : (fun W' => W'.cell? ⟨V, 1, none⟩ = some (.slice D k dc) ∧ W'.cell? ⟨B, 2, none⟩ = some (.slice (some ⟨b, o, none⟩) an ac) ∧ W'.cell? ⟨b, o + k * 6 + 5, none⟩ = some (.slice xp xn xc)) w6 := ⟨cell_of_row _ V 1 _ _ _ hrV4, cell_of_row _ B 2 _ _ _ ((hb4.block B (by omega)).trans HRB5.out), hcell4⟩
         refine hC.out _ _ (fun _ => hS4) ?_
         clear hC C hrV3 hb3 hb6 hS3 hcell3 hot6 ho6 hcel hlen hel o6 hnew hsA
         try simp only [List.getElem_toArray, List.getElem_cons_zero, List.getElem_cons_succ, Act.put, List.setIfInBounds_toArray, List.set_cons_zero, List.set_cons_succ]
         refine Ord.Till.step 11 (by kernel_rfl) rfl (fun C hC => ?_)
         go_simp
         refine hC.out _ _ (fun _ => hS4) ?_
         clear hC C
         try simp only [List.getElem_toArray, List.getElem_cons_zero, List.getElem_cons_succ, Act.put, List.setIfInBounds_toArray, List.set_cons_zero, List.set_cons_succ]
         have fV : ∀ o, w6.frozen? ⟨V, o, none⟩ = false := fun o => frozen_of_row w6 V o _ _ hrV4
         have cV := hS4.1
         refine Ord.Till.step 12 (by kernel_rfl) rfl (fun C hC => ?_)
         go_simp
         refine hC.out _ _ (fun hz => absurd rfl hz) ?_
         clear hC C
         try simp only [List.getElem_toArray, List.getElem_cons_zero, List.getElem_cons_succ, Act.put, List.setIfInBounds_toArray, List.set_cons_zero, List.set_cons_succ]
         refine Ord.Till.done (by kernel_rfl) ?_ _
         have hrV5 := heap_setCell_same w6 V 1 _ _ (.slice A6 (k + 1) c6) hrV4
         have hL5 := OwnL.keep (w' := w6.setCell ⟨V, 1, none⟩ (.slice A6 (k + 1) c6)) hL4 (fun g hg _ => Below.heap_setCell w6 ⟨V, 1, none⟩ _ g (by show g ≠ V; omega))
         have hb5 := hb4.setCell (p := ⟨V, 1, none⟩) (Nat.le_refl _) (.slice A6 (k + 1) c6)
         clear hS4 fV cV hrV4 hL4 hb4 hcell4 HC
         go_wp2_with fail
         go_roundw
         · exact ⟨k + 1, A6, c6, by go_num, by omega, hrV5, hL5, hb5⟩
         · simp [intOf]; omega
       · obtain rfl : k = an := by omega
         have hki : ¬ (k : Int) < (k : Int) := by omega
         have eT : (defsP s.mems).take k = defsP s.mems := List.take_of_length_le (by simp [defsP]; have := Hln.out; omega)
         rw [eT] at hL
         have hrG := (hb.block G (by omega)).trans HRG4.out
         have fG : ∀ o, wr.frozen? ⟨G, o, none⟩ = false := fun o => frozen_of_row wr G o _ _ hrG
         have g0 := cell_of_row _ G 0 _ _ _ hrG
         have g1 := cell_of_row _ G 1 _ _ _ hrG
         have v0 := cell_of_row _ V 0 _ _ _ hrV
         have v1 := cell_of_row _ V 1 _ _ _ hrV
         have B5 := B4.trans (hb.mono (by omega))
         have hO5 : OwnA (set2 wr G (.slice ap k ac) (.slice D k dc)) (w0.heap.size) ⟨xh, mp, mn, mc, xm, ap, k, ac, xms, op, on, oc, xos⟩ :=
           HO3.out.keepb fun g h1 h2 => (set2_ne _ _ g (by omega)).trans ((hb.block g (by omega)).trans (H34.out g (by omega)))
         have hO6 := hO5.reads
         have hL6 := OwnL.keep (w' := set2 wr G (.slice ap k ac) (.slice D k dc)) hL (fun g h1 _ => set2_ne _ _ g (by omega))
         obtain ⟨D', dc', eL, hL7, _⟩ := hL6.reads
         injection eL with eL1 _ eL3
         subst eL1 eL3
         have hR : OpnP l w (.returned (.tuple #[.agg #[.slice ap k ac, .slice D k dc], .int .i64 0, .int .i64 0])) (set2 wr G (.slice ap k ac) (.slice D k dc)) :=
           ⟨⟨ap, k, ac, xms, D, k, dc, defsP s.mems⟩, by rw [HOp.out]; rfl, by rw [HOp.out]; exact ⟨HX.out.2.2.1, rfl⟩, hO5.mems.more (by omega), fun m hm => (hO5.data m hm).more (by omega), ⟨hO6.2.1, hL7, han, han, defsP_small Hsum.out⟩, set2_below B5 (by omega) _ _⟩
         have HR := hid hR
         clear hb eT hO5 hO6 hL6 hL7 hR hL
         go_wp2_with fail
         have hl := load_view _ _ _ (set2_row hrG (.slice ap k ac) (.slice D k dc)) rfl
         unfold set2 at hl
         exact bodyPost_ret (v := .tuple #[.agg #[.slice ap k ac, .slice D k dc], .int .i64 0, .int .i64 0]) (by simp [results, Tryz.results10, asAddr, hl]) rfl HR.out
   · have hczb : (cz != 0) = true := by simpa using hcz
     have HOp := hid (Hchk.out hcz)
     have fG : ∀ o, w3.frozen? ⟨G, o, none⟩ = false := fun o => frozen_of_row w3 G o _ _ HRG3.out
     have g0 := cell_of_row _ G 0 _ _ _ HRG3.out
     have g1 := cell_of_row _ G 1 _ _ _ HRG3.out
     clear hcz Hchk Hopn
     go_wp2_with fail
     have hl := load_view _ _ _ (set2_row HRG3.out (.slice none 0 0) (.slice none 0 0)) rfl
     unfold set2 at hl
     exact bodyPost_ret (v := .tuple #[.agg #[.slice none 0 0, .slice none 0 0], .int .i64 8, .int .i64 cz]) (by simp [results, Tryz.results10, asAddr, hl]) rfl (OpnP.bad HOp.out (set2_below B3 (by omega) _ _))
 · have hzb : (z != 0) = true := by simpa using hz
   have HOp := hid (opn_bad HAR.out hz)
   have fG : ∀ o, w2.frozen? ⟨G, o, none⟩ = false := fun o => frozen_of_row w2 G o _ _ hrg2
   have g0 := cell_of_row _ G 0 _ _ _ hrg2
   have g1 := cell_of_row _ G 1 _ _ _ hrg2
   clear hz
   go_wp2_with fail
   have hl := load_view _ _ _ (set2_row hrg2 (.slice none 0 0) (.slice none 0 0)) rfl
   unfold set2 at hl
   exact bodyPost_ret (v := .tuple #[.agg #[.slice none 0 0, .slice none 0 0], .int .i64 (k0 : Int), .int .i64 z]) (by simp [results, Tryz.results10, asAddr, hl]) rfl (OpnP.bad HOp.out (set2_below B2 (by omega) _ _))
end Go.Proofs.YtjobmkodgodloaaGreatDoor.Con

namespace Go.Proofs.YtjobmkodgodloaaGreatDoor.Con
open Go.RowKit Go.Proofs Go.Proofs.YtjobmkodgodloaaGreatDoor.Byt
open Go.Proofs.YtjobmkodgodloaaGreatDoor.Lnm (Gnd)
open Go.Proofs.YtjobmkodgodloaaGreatDoor.Arp (Mem St Pm ar Arc RdM)
open Go.Proofs.YtjobmkodgodloaaGreatDoor.Arw (fitL offL base arch fitsM)
open Go.Proofs.YtjobmkodgodloaaGreatDoor.Six (defs entsF Few idx offF offF_length namesM hmF idx_size idx_length cOut entsF_names entsF_mem)
open Go.Proofs.YtjobmkodgodloaaGreatDoor.Amp (En decA decE decZ encA fitA fitA_iff enOk_iff szS)

def offM (hm : Bool) (ms : Nat) (xs : List Mem) : List Nat := offL (base hm ms xs) xs
def idxM (hm : Bool) (ms : Nat) (xs : List Mem) : List En := entsF (offM hm ms xs) xs
theorem idxM_names (hm : Bool) (ms : Nat) (xs : List Mem) : (idxM hm ms xs).map (·.name) = namesM xs := entsF_names _ _ (Six.offL_length _ _)
theorem idxM_length (hm : Bool) (ms : Nat) (xs : List Mem) : (idxM hm ms xs).length = (namesM xs).length := by rw [← idxM_names hm ms, List.length_map]
theorem off_small {xs : List Mem} (h : Few xs) {hm : Bool} {ms : Nat} (hms : ms ≤ 10000) {o : Nat} (ho : o ∈ offM hm ms xs) : o ≤ 200000 := by
 unfold offM offL at ho
 obtain ⟨k, hk, rfl⟩ := List.mem_map.1 ho
 rw [List.mem_range] at hk
 have h1 := Arw.base_le (hm := hm) (ms := ms) (xs := xs) (by omega) h.n
 have h2 := Arw.offAt_le (o := base hm ms xs) h.ok k (by omega)
 have := h.n
 have h3 : k * 1061 ≤ 20 * 1061 := Nat.mul_le_mul_right _ (by omega)
 omega
theorem idxM_fit {xs : List Mem} (h : Few xs) {hm : Bool} {ms : Nat} (hms : ms ≤ 10000) : fitA (idxM hm ms xs) = true := fitA_iff.2 fun e he => by
 obtain ⟨k, h1, h2, h3, h4⟩ := entsF_mem he
 have h5 := off_small h hms (List.getElem_mem h1)
 exact enOk_iff.2 ⟨(Six.defs_ok h4).1, by omega, by omega⟩
theorem idxM_small {xs : List Mem} (h : Few xs) (hm : Bool) (ms : Nat) : (idxM hm ms xs).length ≤ 1000 := by rw [idxM_length]; exact h.count
theorem ar_of {xs : List Mem} (h : Few xs) (h0 : (fitL 0 xs).2 = 0) (hm : Bool) {md : List UInt8} (hmd : md.length ≤ 1000000) :
   ∃ t, ar (arch hm md xs) = (⟨hm, if hm = true then md else [], xs.map Mem.pure, (offM hm md.length xs).map (fun (n : Nat) => (n : Int)), t⟩, 0, 0) :=
 ⟨_, Arw.ar_arch hmd ((Arw.fitL_zero 0 xs).1 h0) (by have := h.n; omega) (fun x hx => (h.len x hx).symm)⟩
theorem aidx_of (hm : Bool) (mp : List UInt8) (ms : Nat) (xs : List Mem) (t : Option (List UInt8)) : aidx ⟨hm, mp, xs.map Mem.pure, (offM hm ms xs).map (fun (n : Nat) => (n : Int)), t⟩ = idxM hm ms xs := aents_ents _ _
theorem opn_bare {xs : List Mem} (h : Few xs) (h0 : (fitL 0 xs).2 = 0) (hn : namesM xs ≠ []) : opn (arch false [] xs) = (St.zero, 8, 16) := by
 obtain ⟨t, ht⟩ := ar_of h h0 false (md := []) (by simp)
 have hc : chk ⟨false, if false = true then [] else [], xs.map Mem.pure, (offM false ([] : List UInt8).length xs).map (fun (n : Nat) => (n : Int)), t⟩ = 16 := by
   unfold chk
   rw [if_neg (by simp), aidx_of, idxM_length, if_neg]
   intro e
   exact hn (List.length_eq_zero_iff.1 e)
 rw [opn_chk ht (by rw [hc]; decide), hc]
theorem opn_map {xs : List Mem} (h : Few xs) (h0 : (fitL 0 xs).2 = 0) {md : List UInt8} (hmd : md.length ≤ 10000) :
   (md = encA (idxM true md.length xs) ∧ ∃ t, opn (arch true md xs) = (⟨true, md, xs.map Mem.pure, (offM true md.length xs).map (fun (n : Nat) => (n : Int)), t⟩, 0, 0)) ∨
   (md ≠ encA (idxM true md.length xs) ∧ ∃ z, (z = 8 ∨ z = 16) ∧ opn (arch true md xs) = (St.zero, 8, z)) := by
 obtain ⟨t, ht⟩ := ar_of h h0 true (md := md) (by omega)
 rw [if_pos rfl] at ht
 have hi := aidx_of true md md.length xs t
 have hk := chk_map (s := ⟨true, md, xs.map Mem.pure, (offM true md.length xs).map (fun (n : Nat) => (n : Int)), t⟩) rfl (by rw [hi]; exact idxM_fit h hmd) (by rw [hi]; have := idxM_small h true md.length; omega)
 rw [hi] at hk
 by_cases hc : chk ⟨true, md, xs.map Mem.pure, (offM true md.length xs).map (fun (n : Nat) => (n : Int)), t⟩ = 0
 · exact .inl ⟨hk.1 hc, t, opn_ok ht hc⟩
 · refine .inr ⟨fun e => hc (hk.2 e), _, ?_, opn_chk ht hc⟩
   rcases chk_of ⟨true, md, xs.map Mem.pure, (offM true md.length xs).map (fun (n : Nat) => (n : Int)), t⟩ with h1 | h1 | h1
   · exact absurd h1 hc
   · exact .inl h1
   · exact .inr h1
theorem opn_complete {xs : List Mem} (h : Few xs) (h0 : (fitL 0 xs).2 = 0) :
   ∃ mp t, opn (cOut xs) = (⟨hmF xs, mp, xs.map Mem.pure, (offF xs).map (fun (n : Nat) => (n : Int)), t⟩, 0, 0) := by
 have e : cOut xs = arch (hmF xs) (encA (idx xs)) xs := by unfold cOut; rw [if_pos h0]
 rw [e]
 cases hm : hmF xs
 · obtain ⟨t, ht⟩ := ar_of h h0 false (md := encA (idx xs)) (by rw [idx_size]; have := h.names; omega)
   have hn : namesM xs = [] := by
     unfold hmF at hm
     have : ¬ 0 < (namesM xs).length := by simpa using hm
     exact List.length_eq_zero_iff.1 (by omega)
   have ho : offM false (encA (idx xs)).length xs = offF xs := by
     unfold offM offF
     rw [hm, idx_size]
   rw [ho] at ht
   refine ⟨_, t, opn_ok ht ?_⟩
   unfold chk
   rw [if_neg (by simp)]
   have hi : (aidx ⟨false, if false = true then encA (idx xs) else [], xs.map Mem.pure, (offF xs).map (fun (n : Nat) => (n : Int)), t⟩).length = 0 := by
     rw [show aidx ⟨false, if false = true then encA (idx xs) else [], xs.map Mem.pure, (offF xs).map (fun (n : Nat) => (n : Int)), t⟩ = entsF (offF xs) xs from aents_ents _ _]
     rw [show entsF (offF xs) xs = idx xs from rfl, idx_length, hn]
     rfl
   rw [if_pos hi]
 · have hl : (encA (idx xs)).length ≤ 10000 := by rw [idx_size]; have := h.names; omega
   have ho : offM true (encA (idx xs)).length xs = offF xs := by
     unfold offM offF
     rw [hm, idx_size]
   have hi : idxM true (encA (idx xs)).length xs = idx xs := by
     unfold idxM
     rw [ho]
     rfl
   rcases opn_map h h0 hl with ⟨_, t, ht⟩ | ⟨hne, _⟩
   · rw [ho] at ht
     exact ⟨_, t, ht⟩
   · exact absurd (by rw [hi]) hne
structure PC9 : Prop where
 open_ : ∀ (A : Option Addr) (n c : Nat) (l : List UInt8) (w : World), Gnd w → Byt.Rd w w.heap.size A n l → n ≤ c → c ≤ maxLen → n < 100000 → Calls Tryz.prog 9 #[.slice A n c] w (OpnP l w)
 index : ∀ (x : Arc) (K : Nat) (w : World), ArgA w K x → Calls Tryz.prog 15 #[x.val] w (EntsP (aentsX x) w)
 check : ∀ (x : Arc) (K : Nat) (w : World) (s : St), ArgA w K x → x.is s → Calls Tryz.prog 17 #[x.val] w fun e w' => e = .returned (.int .i64 (chk s)) ∧ Below w.heap.size w w'
theorem rcomp_owns {xs : List Mem} {w w' : World} {e : Ending} (h : Six.RComp xs w e w') :
   ∃ A n c A1 n1 c1 A2 n2 c2, e = .returned (.tuple #[.slice A n c, .slice A1 n1 c1, .slice A2 n2 c2, .int .i64 (fitL 0 xs).2]) ∧ n = (cOut xs).length ∧ Byt.Rd w' w'.heap.size A n (cOut xs) ∧ n ≤ c ∧ c ≤ maxLen ∧ Amp.RdE w' w'.heap.size A1 n1 (Six.iOut xs) ∧ Below w.heap.size w w' := by
 obtain ⟨v, A1, n1, c1, A2, n2, c2, rfl, ho, h1, h2, hb⟩ := h
 obtain ⟨A, c, rfl, hr, hnc, hc⟩ := ho.reads
 exact ⟨A, _, c, A1, n1, c1, A2, n2, c2, rfl, rfl, hr, hnc, hc, Amp.rde_own h1, hb⟩
end Go.Proofs.YtjobmkodgodloaaGreatDoor.Con
