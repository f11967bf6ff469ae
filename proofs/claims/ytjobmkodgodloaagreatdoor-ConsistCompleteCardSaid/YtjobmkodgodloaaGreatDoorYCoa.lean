/-
  consist: the state of opening in memory; what is read of an archive while that state is written.
  consist: the program finds the definitions of the members, and makes the actual index of them.
  consist: the program's other steps: parsing, reading the map, comparing.
  consist: the program's steps, one after another, up to the first error.
  consist: what holds between the program's steps; each step leads to the next.
  consist: the program's Index, Check and Open.
-/
import Derived.Test.YtjobmkodgodloaaGreatDoorYCe
import Derived.Test.YtjobmkodgodloaaGreatDoorYSg
import Derived.Test.YtjobmkodgodloaaGreatDoorYAf
import Derived.Test.YtjobmkodgodloaaGreatDoorYMm
import Derived.Test.YtjobmkodgodloaaGreatDoorYMn
import Derived.BigQuiet
import Derived.BigRegion
import Derived.Deep.RegionHeld3
import Derived.Test.YtjobmkodgodloaaGreatDoorYMb
import Derived.Deep.WholeRow
namespace Go.Proofs.YtjobmkodgodloaaGreatDoor.Con
open Go.RowKit Go.Proofs Go.Proofs.YtjobmkodgodloaaGreatDoor.Byt
open Go.Proofs.YtjobmkodgodloaaGreatDoor.Sls (Oth)
open Go.Proofs.YtjobmkodgodloaaGreatDoor.Arp (Mem St Pm ar Arc RdA RdM RdI OwnM OwnA But)
open Go.Proofs.YtjobmkodgodloaaGreatDoor.Six (defs RdL OwnL)
open Go.Proofs.YtjobmkodgodloaaGreatDoor.Amp (En RdE ecells decA decE decZ sameE)

def RdX (w : World) (B : Nat) (x : Arc) : Prop := ∀ W, But B w W → RdA W W.heap.size x
theorem RdX.but {w w' : World} {B : Nat} {x : Arc} (h : RdX w B x) (hb : But B w w') : RdX w' B x := fun W hW => h W (hb.trans hW)
theorem RdX.of_rd {w : World} {B K : Nat} {x : Arc} (h : RdA w K x) (hK : K ≤ B) (hs : K ≤ w.heap.size) : RdX w B x :=
 fun _ hW => (h.below (hW.to hK hs)).more (Nat.le_trans hs hW.size)
theorem RdX.of_own {w : World} {B K : Nat} {x : Arc} (h : OwnA w K x) (hB : B < K) : RdX w B x := fun _ hW => (h.but hW hB).reads
structure ArgX (w : World) (B : Nat) (x : Arc) : Prop where
 rd : RdX w B x
 len : x.offs.length = x.mems.length
 cap : ∀ m ∈ x.mems, m.len ≤ m.cap ∧ m.cap ≤ maxLen
 mcap : x.mn ≤ x.mc ∧ x.mc ≤ maxLen
 mlen : x.mn ≤ 100000
 tot : sumP (x.mems.map Mem.pure) ≤ 100000
 cnt : x.mems.length ≤ 100000
theorem ArgX.but {w w' : World} {B : Nat} {x : Arc} (h : ArgX w B x) (hb : But B w w') : ArgX w' B x := ⟨h.rd.but hb, h.2, h.3, h.4, h.5, h.6, h.7⟩
theorem ArgX.at_ {w : World} {B : Nat} {x : Arc} (h : ArgX w B x) (W : World) (hb : But B w W) : ArgA W W.heap.size x := ⟨h.rd W hb, Nat.le_refl _, h.2, h.3, h.4, h.5, h.6, h.7⟩
theorem ArgX.here {w : World} {B : Nat} {x : Arc} (h : ArgX w B x) : ArgA w w.heap.size x := h.at_ w (But.refl _ _)
theorem ArgX.of_arg {w : World} {B K : Nat} {x : Arc} (h : ArgA w K x) (hK : K ≤ B) : ArgX w B x := ⟨RdX.of_rd h.rd hK h.hK, h.len, h.cap, h.mcap, h.mlen, h.tot, h.cnt⟩
theorem ArgX.of_own {w : World} {B K : Nat} {x : Arc} {l : List UInt8} {s : St} {k : Nat} (ho : OwnA w K x) (hB : B < K) (hi : x.is s) (h : ar l = (s, k, 0)) (hl : l.length ≤ 100000) : ArgX w B x := by
 have := argA_of ho hi h hl
 exact ⟨RdX.of_own ho hB, this.len, this.cap, this.mcap, this.mlen, this.tot, this.cnt⟩
def RdEX (w : World) (B : Nat) (A : Option Addr) (n : Nat) (es : List En) : Prop := ∀ W, But B w W → RdE W W.heap.size A n es
theorem RdEX.but {w w' : World} {B n : Nat} {A : Option Addr} {es : List En} (h : RdEX w B A n es) (hb : But B w w') : RdEX w' B A n es := fun W hW => h W (hb.trans hW)
theorem RdEX.nil (w : World) (B : Nat) : RdEX w B none 0 [] := fun _ _ => ⟨rfl, fun k hk => absurd hk (by simp)⟩
theorem cel_but {w W : World} {t : TypeId} {sz K B n : Nat} {v : Value} {l : List Value} (h : Cel.Own t sz w K v n l) (hB : B < K) (hb : But B w W) : Cel.Own t sz W K v n l := h.keep fun g hg hlt => hb.block g hlt (by omega)
theorem ownL_but {w W : World} {K B n : Nat} {v : Value} {xs : List (List ByteArray)} (h : OwnL w K v n xs) (hB : B < K) (hb : But B w W) : OwnL W K v n xs := OwnL.keep h fun g hg hlt => hb.block g hlt (by omega)
theorem RdEX.of_own {w : World} {B K n c : Nat} {A : Option Addr} {es : List En} (h : Cel.Own 95 2 w K (.slice A n c) n (ecells es)) (hB : B < K) : RdEX w B A n es :=
 fun _ hW => Amp.rde_own (cel_but h hB hW)
theorem chk_same {s : St} {ls : List En} (h : (s.hasMap = true ∧ decZ s.map = 0 ∧ ls = decE s.map) ∨ (s.hasMap = false ∧ ls = [])) : chk s = if sameE ls (aidx s) = true then 0 else 16 := by
 rcases h with ⟨h1, h2, rfl⟩ | ⟨h1, rfl⟩
 · unfold chk
   rw [if_pos h1, if_pos h2]
 · unfold chk
   rw [if_neg (by rw [h1]; decide)]
   cases he : aidx s with
   | nil => rfl
   | cons a r => rfl
end Go.Proofs.YtjobmkodgodloaaGreatDoor.Con

namespace Go.Proofs.YtjobmkodgodloaaGreatDoor.Con
open Go.RowKit Go.Proofs Go.Proofs.YtjobmkodgodloaaGreatDoor.Byt
open Go.Proofs.YtjobmkodgodloaaGreatDoor.Sls (Oth)
open Go.Proofs.YtjobmkodgodloaaGreatDoor.Arp (Mem St Pm ar Arc RdA RdM RdI OwnM OwnA But)
open Go.Proofs.YtjobmkodgodloaaGreatDoor.Six (defs RdL OwnL pdefs_any kSS rdm_cell sown_oth str_ent DefsP)
open Go.Proofs.YtjobmkodgodloaaGreatDoor.Amp (En RdE ecells decA decE decZ sameE)

theorem ownL_oth {w w' : World} {K n : Nat} {v : Value} {xs : List (List ByteArray)} {t : TypeId} (h : OwnL w K v n xs) (ho : Oth t w w') (h1 : (61 : Nat) ≠ t) (h2 : (9 : Nat) ≠ t) : OwnL w' K v n xs := by
 obtain ⟨vs, hc, hl, he⟩ := h
 exact ⟨vs, Cel.Own.oth hc ho h1, hl, fun k a b => sown_oth (he k a b) ho h2⟩
theorem row_oth {w w' : World} {t u : TypeId} {g : Nat} {cs : Array Value} {m : Nat × Nat} (h : w.heap[g]? = some (.cells cs u m)) (ho : Oth t w w') (hn : (u : Nat) ≠ t) : w'.heap[g]? = some (.cells cs u m) :=
 ho g _ h (fun _ _ q => by injection q with _ q2; exact hn q2)
theorem cons_ent : (75 : Nat) ≠ 95 := by decide
theorem cons_lst : (75 : Nat) ≠ 61 := by decide
theorem lst_ent : (61 : Nat) ≠ 95 := by decide
theorem ent_lst : (95 : Nat) ≠ 61 := by decide
theorem str_lst : (9 : Nat) ≠ 61 := by decide
theorem sls_but {w W : World} {K B n : Nat} {v : Value} {l : List ByteArray} (h : Sls.Own w K v n l) (hB : B < K) (hb : But B w W) : Sls.Own W K v n l := h.keep fun g hg hlt => hb.block g hlt (by omega)
theorem But.own {B K : Nat} {W0 W W' : World} (h : But B W0 W) (hb : Below K W W') (hK : W0.heap.size ≤ K) : But B W0 W' :=
 ⟨hb.os.trans h.os, hb.tape.trans h.tape, hb.output.trans h.output, Nat.le_trans h.size hb.size, fun g hg hn => (hb.block g (by omega)).trans (h.block g hg hn)⟩

set_option linter.unusedSimpArgs false in
set_option maxRecDepth 100000 in
set_option maxHeartbeats 8000000 in
theorem indexM_any (B : Nat) (b L : Value) (x : Arc) (w : World) (hrow : w.heap[B]? = some (.cells #[b, .bool x.hasMap, .slice x.mp x.mn x.mc, .slice x.ap x.an x.ac, .slice x.op x.on x.oc, L, .slice none 0 0, .slice none 0 0] 75 (0, 0))) (hx : ArgX w B x) :
   Calls Tryz.prog 36 #[.pointer (some ⟨B, 0, none⟩)] w fun e w' => ∃ A n c D m d, e = .returned (.tuple #[.int .i64 0, .int .i64 0]) ∧ w'.heap[B]? = some (.cells #[b, .bool x.hasMap, .slice x.mp x.mn x.mc, .slice x.ap x.an x.ac, .slice x.op x.on x.oc, L, .slice A n c, .slice D m d] 75 (0, 0)) ∧
     Cel.Own 95 2 w' w.heap.size (.slice A n c) n (ecells (aentsX x)) ∧ OwnL w' w.heap.size (.slice D m d) m (defsP (x.mems.map Mem.pure)) ∧ But B w w' := by
 have HX := hid hx
 have Hnm := hid hx.here.names
 have hBs : B < w.heap.size := (Array.getElem?_eq_some_iff.1 hrow).1
 have hLen := hx.len
 obtain ⟨xh, mp, mn, mc, xm, ap, an, ac, xms, op, on, oc, xos⟩ := x
 have hA0 := hx.here.rd
 have e1 := hA0.2.1.1
 have e2 := hA0.2.2.1.1
 simp only at e1 e2 hrow hLen Hnm
 obtain rfl : on = an := by omega
 have Hl : Hid (xms.length = on) := hid e1
 have Hlen : Hid (xos.length = xms.length) := hid hLen
 have Hcap : Hid (∀ m ∈ xms, m.len ≤ m.cap ∧ m.cap ≤ maxLen) := hid hx.cap
 have Htot : Hid (sumP (xms.map Mem.pure) ≤ 100000) := hid hx.tot
 have HRow := hid hrow
 clear hA0 e1 e2 hLen hx
 have c3 := cell_of_row _ B 3 _ _ _ hrow
 have c4 := cell_of_row _ B 4 _ _ _ hrow
 clear hrow
 go_enter Tryz.func36, Tryz.ntmps36
 go_upto_region 1 with fail
 have hmin : min (on : Int) (on : Int) = on := by simp
 have hS0 : (fun W' => W'.cell? ⟨B, 3, none⟩ = some (.slice ap on ac) ∧ W'.cell? ⟨B, 4, none⟩ = some (.slice op on oc)) w.drew := ⟨c3, c4⟩
 refine Ord.Till.begin (fun W' => W'.cell? ⟨B, 3, none⟩ = some (.slice ap on ac) ∧ W'.cell? ⟨B, 4, none⟩ = some (.slice op on oc)) 60 (by kernel_rfl) ?_
 clear c3 c4
 refine Ord.Till.take' 0 (some 8) (oi := _) (x := ?_) rfl rfl (by kernel_rfl) (by kernel_rfl) (by kernel_rfl) (by kernel_rfl) (fun _ _ _ h => h) (by kernel_rfl) ?_ hS0 ?_
 rotate_left 1
 · intro v hv; obtain ⟨z0, z1⟩ := hv; go_simp; first | done | with_reducible rfl
 try simp only [List.getElem_toArray, List.getElem_cons_zero, List.getElem_cons_succ, Act.put, List.setIfInBounds_toArray, List.set_cons_zero, List.set_cons_succ]
 refine Ord.Till.take' 1 (some 9) (oi := _) (x := ?_) rfl rfl (by kernel_rfl) (by kernel_rfl) (by kernel_rfl) (by kernel_rfl) (fun _ _ _ h => h) (by kernel_rfl) ?_ hS0 ?_
 rotate_left 1
 · intro v hv; obtain ⟨z0, z1⟩ := hv; go_simp; first | done | with_reducible rfl
 try simp only [List.getElem_toArray, List.getElem_cons_zero, List.getElem_cons_succ, Act.put, List.setIfInBounds_toArray, List.set_cons_zero, List.set_cons_succ]
 refine Ord.Till.take' 2 (some 10) (oi := _) (x := ?_) rfl rfl (by kernel_rfl) (by kernel_rfl) (by kernel_rfl) (by kernel_rfl) (fun _ _ _ h => h) (by kernel_rfl) ?_ hS0 ?_
 rotate_left 1
 · intro v hv; obtain ⟨z0, z1⟩ := hv; go_simp; first | done | with_reducible rfl
 try simp only [List.getElem_toArray, List.getElem_cons_zero, List.getElem_cons_succ, Act.put, List.setIfInBounds_toArray, List.set_cons_zero, List.set_cons_succ]
 refine Ord.Till.take' 3 (some 11) (oi := _) (x := ?_) rfl rfl (by kernel_rfl) (by kernel_rfl) (by kernel_rfl) (by kernel_rfl) (fun _ _ _ h => h) (by kernel_rfl) ?_ hS0 ?_
 rotate_left 1
 · intro v hv; obtain ⟨z0, z1⟩ := hv; go_simp; first | done | with_reducible rfl
 try simp only [List.getElem_toArray, List.getElem_cons_zero, List.getElem_cons_succ, Act.put, List.setIfInBounds_toArray, List.set_cons_zero, List.set_cons_succ]
 refine Ord.Till.take' 4 (some 12) (oi := _) (x := ?_) rfl rfl (by kernel_rfl) (by kernel_rfl) (by kernel_rfl) (by kernel_rfl) (fun _ _ _ h => h) (by kernel_rfl) ?_ hS0 ?_
 rotate_left 1
 · intro v hv; obtain ⟨z0, z1⟩ := hv; go_simp; first | done | with_reducible rfl
 try simp only [List.getElem_toArray, List.getElem_cons_zero, List.getElem_cons_succ, Act.put, List.setIfInBounds_toArray, List.set_cons_zero, List.set_cons_succ]
 refine Ord.Till.take' 5 (some 13) (oi := _) (x := ?_) rfl rfl (by kernel_rfl) (by kernel_rfl) (by kernel_rfl) (by kernel_rfl) (fun _ _ _ h => h) (by kernel_rfl) ?_ hS0 ?_
 rotate_left 1
 · intro v hv; obtain ⟨z0, z1⟩ := hv; go_simp; first | done | with_reducible rfl
 try simp only [List.getElem_toArray, List.getElem_cons_zero, List.getElem_cons_succ, Act.put, List.setIfInBounds_toArray, List.set_cons_zero, List.set_cons_succ]
 refine Ord.Till.take' 6 (some 14) (oi := _) (x := ?_) rfl rfl (by kernel_rfl) (by kernel_rfl) (by kernel_rfl) (by kernel_rfl) (fun _ _ _ h => h) (by kernel_rfl) ?_ hS0 ?_
 rotate_left 1
 · intro v hv; obtain ⟨z0, z1⟩ := hv; go_simp; first | done | with_reducible rfl
 try simp only [List.getElem_toArray, List.getElem_cons_zero, List.getElem_cons_succ, Act.put, List.setIfInBounds_toArray, List.set_cons_zero, List.set_cons_succ]
 refine Ord.Till.take' 7 (some 15) (oi := _) (x := ?_) rfl rfl (by kernel_rfl) (by kernel_rfl) (by kernel_rfl) (by kernel_rfl) (fun _ _ _ h => h) (by kernel_rfl) ?_ hS0 ?_
 rotate_left 1
 · intro v hv; obtain ⟨z0, z1⟩ := hv; go_simp; first | done | with_reducible rfl
 try simp only [List.getElem_toArray, List.getElem_cons_zero, List.getElem_cons_succ, Act.put, List.setIfInBounds_toArray, List.set_cons_zero, List.set_cons_succ]
 refine Ord.Till.take' 8 (some 16) (oi := _) (x := ?_) rfl rfl (by kernel_rfl) (by kernel_rfl) (by kernel_rfl) (by kernel_rfl) (fun _ _ _ h => h) (by kernel_rfl) ?_ hS0 ?_
 rotate_left 1
 · intro v hv; obtain ⟨z0, z1⟩ := hv; go_simp; first | done | with_reducible rfl
 try simp only [List.getElem_toArray, List.getElem_cons_zero, List.getElem_cons_succ, Act.put, List.setIfInBounds_toArray, List.set_cons_zero, List.set_cons_succ]
 refine Ord.Till.take' 9 (some 17) (oi := _) (x := ?_) rfl rfl (by kernel_rfl) (by kernel_rfl) (by kernel_rfl) (by kernel_rfl) (fun _ _ _ h => h) (by kernel_rfl) ?_ hS0 ?_
 rotate_left 1
 · intro v hv; obtain ⟨z0, z1⟩ := hv; go_simp; first | done | with_reducible rfl
 try simp only [List.getElem_toArray, List.getElem_cons_zero, List.getElem_cons_succ, Act.put, List.setIfInBounds_toArray, List.set_cons_zero, List.set_cons_succ]
 refine Ord.Till.take' 10 (some 18) (oi := _) (x := ?_) rfl rfl (by kernel_rfl) (by kernel_rfl) (by kernel_rfl) (by kernel_rfl) (fun _ _ _ h => h) (by kernel_rfl) ?_ hS0 ?_
 rotate_left 1
 · intro v hv; obtain ⟨z0, z1⟩ := hv; go_simp; first | done | with_reducible rfl
 try simp only [List.getElem_toArray, List.getElem_cons_zero, List.getElem_cons_succ, Act.put, List.setIfInBounds_toArray, List.set_cons_zero, List.set_cons_succ]
 refine Ord.Till.take' 11 (some 19) (oi := _) (x := ?_) rfl rfl (by kernel_rfl) (by kernel_rfl) (by kernel_rfl) (by kernel_rfl) (fun _ _ _ h => h) (by kernel_rfl) ?_ hS0 ?_
 rotate_left 1
 · intro v hv; obtain ⟨z0, z1⟩ := hv; go_simp; first | done | with_reducible rfl
 try simp only [List.getElem_toArray, List.getElem_cons_zero, List.getElem_cons_succ, Act.put, List.setIfInBounds_toArray, List.set_cons_zero, List.set_cons_succ]
 refine Ord.Till.take' 12 (some 20) (oi := _) (x := ?_) rfl rfl (by kernel_rfl) (by kernel_rfl) (by kernel_rfl) (by kernel_rfl) (fun _ _ _ h => h) (by kernel_rfl) ?_ hS0 ?_
 rotate_left 1
 · intro v hv; obtain ⟨z0, z1⟩ := hv; go_simp; first | done | with_reducible rfl
 try simp only [List.getElem_toArray, List.getElem_cons_zero, List.getElem_cons_succ, Act.put, List.setIfInBounds_toArray, List.set_cons_zero, List.set_cons_succ]
 refine Ord.Till.take' 13 (some 21) (oi := _) (x := ?_) rfl rfl (by kernel_rfl) (by kernel_rfl) (by kernel_rfl) (by kernel_rfl) (fun _ _ _ h => h) (by kernel_rfl) ?_ hS0 ?_
 rotate_left 1
 · intro v hv; obtain ⟨z0, z1⟩ := hv; go_simp; first | done | with_reducible rfl
 try simp only [List.getElem_toArray, List.getElem_cons_zero, List.getElem_cons_succ, Act.put, List.setIfInBounds_toArray, List.set_cons_zero, List.set_cons_succ]
 refine Ord.Till.done (by kernel_rfl) ?_ _
 clear hS0
 have HB0 : Hid (But B w w.drew) := hid (But.below ((Below.refl _ _).drew))
 have HRow0 := hid (show w.drew.heap[B]? = some (.cells #[b, .bool xh, .slice mp mn mc, .slice ap on ac, .slice op on oc, L, .slice none 0 0, .slice none 0 0] 75 (0, 0)) from HRow.out)
 have hsd : w.drew.heap.size = w.heap.size := rfl
 have HX0 := hid (HX.out.but HB0.out)
 obtain ⟨K, hK⟩ : ∃ K, w.heap.size = K := ⟨_, rfl⟩
 generalize w.drew = w0 at *
 rw [hK] at hsd hBs
 have HKw := hid hK
 have HK0 : Hid (w0.heap.size ≤ K) := hid (by omega)
 have Hon : Hid (on ≤ 100000) := hid (by rw [← Hl.out]; exact HX.out.cnt)
 clear HRow HX hK hmin
 go_wp2_with fail
 go_loopw [21] (fun iv W => ∃ (k j : Nat) (A1 : Option Addr) (c1 : Nat) (D : Option Addr) (dc : Nat), iv = .int .i64 (k : Int) ∧ k ≤ on ∧ Hid (j = (namesP ((xms.map Mem.pure).take k)).length) ∧ W.heap[B]? = some (.cells #[b, .bool xh, .slice mp mn mc, .slice ap on ac, .slice op on oc, L, .slice A1 j c1, .slice D k dc] 75 (0, 0)) ∧ Cel.Own 95 2 W K (.slice A1 j c1) j (ecells (aents (xos.take k) ((xms.map Mem.pure).take k))) ∧ OwnL W K (.slice D k dc) k ((defsP (xms.map Mem.pure)).take k) ∧ But B w0 W) (fun iv _ => on - (intOf iv).toNat)
 case atStart => exact ⟨0, 0, none, 0, none, 0, rfl, by omega, hid (by simp [namesP]), HRow0.out, Cel.Own.nil _ _ _ _, OwnL.of (Cel.Own.nil _ _ _ _), But.refl _ _⟩
 case round =>
   obtain ⟨k, j, A1, c1, D, dc, rfl, hk, Hj, hRow, hE, hL, hb⟩ := hrel
   by_cases hlt : k < on
   · have hkl : k < xms.length := by have := Hl.out; omega
     have hkp : k < (xms.map Mem.pure).length := by rw [List.length_map]; exact hkl
     have hki : (k : Int) < (on : Int) := by omega
     have hBr : B < wr.heap.size := (Array.getElem?_eq_some_iff.1 hRow).1
     have hKr : K ≤ wr.heap.size := by have := hb.size; omega
     have hA := (HX0.out.at_ wr hb).rd
     have hM : RdM wr wr.heap.size ap on xms := hA.2.1
     have hI : RdI wr wr.heap.size op on xos := hA.2.2.1
     clear hA
     obtain ⟨qb, qo, rfl, hbK, hcell, hrd⟩ := rdm_cell hM hkl
     obtain ⟨hx3, hx4⟩ := Hcap.out _ (List.getElem_mem hkl)
     have hx1 : xms[k].len ≤ 100000 := by
       have h1 := sumP_mem (xs := xms.map Mem.pure) (x := xms[k].pure) (List.mem_map_of_mem (List.getElem_mem hkl))
       have h2 := Htot.out
       have h3 := hrd.1
       have h4 : xms[k].pure.data.length = xms[k].data.length := rfl
       omega
     have HC := hid (pdefs_any wr.heap.size xms[k].ptr xms[k].len xms[k].cap xms[k].data wr hrd (Nat.le_refl _) hx3 hx4 hx1)
     have HTn := hid (namesP_take hkp)
     have HTe := hid (aents_take (os := xos) (by rw [Hlen.out, List.length_map]) hkp)
     have HTd := hid (defsP_take hkp)
     have ed : (xms.map Mem.pure)[k].data = xms[k].data := by rw [List.getElem_map]; rfl
     rw [ed] at HTn HTe HTd
     have hol : k < xos.length := by rw [Hlen.out]; exact hkl
     obtain ⟨bo, oo, rfl, hboK, hoc⟩ := hI.2 k hol
     have HOc : Hid (∀ W, But B w0 W → W.cell? ⟨bo, oo + k, none⟩ = some (.int .i64 (xos[k]'hol))) := hid fun W hW => by
       obtain ⟨b', o', e', _, h'⟩ := (HX0.out.at_ W hW).rd.2.2.1.2 k hol
       cases e'
       exact h'
     have Hjb : Hid (j + (defs xms[k].data).length ≤ 20000) := hid (by
       have h1 := Hnm.out
       have h2 : namesP (xms.map Mem.pure) = namesP ((xms.map Mem.pure).take (k + 1)) ++ namesP ((xms.map Mem.pure).drop (k + 1)) := by rw [← namesP_append, List.take_append_drop]
       rw [h2, List.length_append, HTn.out, List.length_append, ← Hj.out] at h1
       omega)
     have Hlen2 : Hid ((namesP ((xms.map Mem.pure).take (k + 1))).length = j + (defs xms[k].data).length) := hid (by rw [HTn.out, List.length_append, Hj.out])
     have e3 := cell_of_row _ B 3 _ _ _ hRow
     clear hoc hrd hx1 hx3 hx4 HTn ed hboK hM hI
     generalize xos[k]'hol = opv at *
     generalize xms[k] = x at *
     obtain ⟨x0, x1, x2, x3', x4', x5, x6, x7, x8⟩ := x
     simp only at *
     go_wp2_with fail
     refine HC.out.mono ?_
     rintro e w7 hD
     obtain ⟨A7, n7, c7, rfl, hn7, o7, _, _, _, hb7⟩ := hD.reads
     have Hn7 := hid hn7
     rw [← hn7] at Hjb Hlen2
     have hRow7 := (hb7.block B hBr).trans hRow
     have hE7 := hE.below hb7
     have hL7 := hL.below hb7
     have hb07 := hb.trans (But.below hb7)
     have hK7 : K ≤ w7.heap.size := by have := hb7.size; omega
     have o7' : Sls.Own w7 K (.slice A7 n7 c7) (defs x8).length (defs x8) := by rw [← hn7]; exact o7.more hKr
     obtain ⟨vs, hcel, hlen, hel⟩ := hL7
     have Hlv := hid hlen
     have Hel := hid hel
     have g7 := cell_of_row _ B 7 _ _ _ hRow7
     have hkk := Hon.out
     clear hD hb7 hn7 HC hcell hE hL hb e3 hRow o7 hlen hel hBr hKr
     go_upto_region 6 with (at_builtin; go_must (refine Cel.wpList_push kSS w7 K (.slice D k dc) k _ hcel hK7 1 1 #[.slice A7 n7 c7] (0, 0) rfl (by simp [Value.oneCell']) (by omega) (by omega) rfl (.tmp 38) (.tmp 40) rfl rfl rfl ?_); intro v8 w8 ho8 hb8 hot8 _; obtain ⟨A8, c8, rfl, _⟩ := ho8.reads; have hRow8 := row_oth hRow7 hot8 cons_lst; have f8 : ∀ o, w8.frozen? ⟨B, o, none⟩ = false := (fun o => frozen_of_row w8 B o _ _ hRow8); have d8 := cell_of_row w8 B 7 _ _ _ hRow8)
     have hL8 := OwnL.push Hlv.out Hel.out o7' ho8 hot8
     rw [← HTd.out] at hL8
     have hE8 := Cel.Own.oth hE7 hot8 ent_lst
     have hS8 := sown_oth o7' hot8 str_lst
     have hb08 := But.own hb07 hb8 HK0.out
     have hRow9 := heap_setCell_same w8 B 7 _ _ (.slice A8 (k + 1) c8) hRow8
     have hset := But.set (B := B) w8 7 (.slice A8 (k + 1) c8)
     have hL9 := ownL_but hL8 hBs hset
     have hE9 := cel_but hE8 hBs hset
     have hS9 := sls_but hS8 hBs hset
     rw [← Hn7.out] at hS9
     have hb09 := hb08.trans hset
     have hjq := Hjb.out
     clear hL8 hE8 hS8 hb08 hset hRow8 f8 d8 ho8 hb8 hot8 hRow7 hE7 hb07 hK7 o7' hcel Hlv Hel g7 HTd
     generalize w8.setCell ⟨B, 7, none⟩ (.slice A8 (k + 1) c8) = w9 at *
     generalize defs x8 = ds at *
     go_wp2_with fail
     go_loopw [46] (fun iv W => ∃ (q : Nat) (A4 : Option Addr) (c4 : Nat), iv = .int .i64 (q : Int) ∧ q ≤ n7 ∧ W.heap[B]? = some (.cells #[b, .bool xh, .slice mp mn mc, .slice (some ⟨qb, qo, none⟩) on ac, .slice (some ⟨bo, oo, none⟩) on oc, L, .slice A4 (j + q) c4, .slice A8 (k + 1) c8] 75 (0, 0)) ∧ Cel.Own 95 2 W K (.slice A4 (j + q) c4) (j + q) (ecells (aents (xos.take k) ((xms.map Mem.pure).take k) ++ (ds.take q).map fun s => (⟨s, opv⟩ : En))) ∧ Sls.Own W K (.slice A7 n7 c7) n7 ds ∧ OwnL W K (.slice A8 (k + 1) c8) (k + 1) ((defsP (xms.map Mem.pure)).take (k + 1)) ∧ But B w0 W) (fun iv _ => n7 - (intOf iv).toNat)
     case atStart => exact ⟨0, A1, c1, rfl, by omega, hRow9, by simpa using hE9, hS9, hL9, hb09⟩
     case round =>
       obtain ⟨q, A4, c4, rfl, hq, hRow, hE, hS, hL, hb⟩ := hrel
       by_cases hqt : q < n7
       · have hql : q < ds.length := by have := Hn7.out; omega
         have hqi : (q : Int) < (n7 : Int) := by omega
         have hBr : B < wr.heap.size := (Array.getElem?_eq_some_iff.1 hRow).1
         have hKr : K ≤ wr.heap.size := by have := hb.size; omega
         obtain ⟨A6', c6', e6, r6, _, _⟩ := hS.reads
         injection e6 with e61 _ e63
         subst e61 e63
         obtain ⟨b6, o6, rfl, _, hc6⟩ := r6.2 q hql
         have HTs : Hid (ecells (aents (xos.take k) ((xms.map Mem.pure).take k) ++ (ds.take (q + 1)).map fun s => (⟨s, opv⟩ : En)) = ecells (aents (xos.take k) ((xms.map Mem.pure).take k) ++ (ds.take q).map fun s => (⟨s, opv⟩ : En)) ++ [.string ds[q], .int .i64 opv]) := hid (by
           rw [List.take_succ_eq_append_getElem hql, List.map_append, ← List.append_assoc, Amp.ecells_append]
           rfl)
         generalize ds[q] = s at *
         clear r6
         go_upto_region 9 with fail
         have hbd : Below wr.heap.size wr wr.drew := (Below.refl _ _).drew
         have hE1 := hE.below hbd
         have hS1' := hS.below hbd
         have hL1 := hL.below hbd
         have hb1 := hb.trans (But.below hbd)
         have hRow1 := (hbd.block B hBr).trans hRow
         have hBd : B < wr.drew.heap.size := hBr
         have hKd : K ≤ wr.drew.heap.size := hKr
         have hS1 : (fun W' => W'.cell? ⟨B, 6, none⟩ = some (.slice A4 (j + q) c4) ∧ W'.cell? ⟨B, 4, none⟩ = some (.slice (some ⟨bo, oo, none⟩) on oc) ∧ W'.cell? ⟨bo, oo + k, none⟩ = some (.int .i64 opv)) wr.drew := ⟨cell_of_row _ B 6 _ _ _ hRow1, cell_of_row _ B 4 _ _ _ hRow1, HOc.out _ hb1⟩
         refine Ord.Till.begin (fun W' => W'.cell? ⟨B, 6, none⟩ = some (.slice A4 (j + q) c4) ∧ W'.cell? ⟨B, 4, none⟩ = some (.slice (some ⟨bo, oo, none⟩) on oc) ∧ W'.cell? ⟨bo, oo + k, none⟩ = some (.int .i64 opv)) 19 (by kernel_rfl) ?_
         generalize wr.drew = wd at *
         clear hc6 hE hS hL hb hRow hbd hBr hKr
         refine Ord.Till.take' 0 (some 50) (oi := _) (x := ?_) rfl rfl (by kernel_rfl) (by kernel_rfl) (by kernel_rfl) (by kernel_rfl) (fun _ _ _ h => h) (by kernel_rfl) ?_ hS1 ?_
         rotate_left 1
         · intro v hv; obtain ⟨z0, z1, z2⟩ := hv; go_simp; first | done | with_reducible rfl
         try simp only [List.getElem_toArray, List.getElem_cons_zero, List.getElem_cons_succ, Act.put, List.setIfInBounds_toArray, List.set_cons_zero, List.set_cons_succ]
         refine Ord.Till.take' 1 (some 51) (oi := _) (x := ?_) rfl rfl (by kernel_rfl) (by kernel_rfl) (by kernel_rfl) (by kernel_rfl) (fun _ _ _ h => h) (by kernel_rfl) ?_ hS1 ?_
         rotate_left 1
         · intro v hv; obtain ⟨z0, z1, z2⟩ := hv; go_simp; first | done | with_reducible rfl
         try simp only [List.getElem_toArray, List.getElem_cons_zero, List.getElem_cons_succ, Act.put, List.setIfInBounds_toArray, List.set_cons_zero, List.set_cons_succ]
         refine Ord.Till.take' 2 (some 52) (oi := _) (x := ?_) rfl rfl (by kernel_rfl) (by kernel_rfl) (by kernel_rfl) (by kernel_rfl) (fun _ _ _ h => h) (by kernel_rfl) ?_ hS1 ?_
         rotate_left 1
         · intro v hv; obtain ⟨z0, z1, z2⟩ := hv; go_simp; first | done | with_reducible rfl
         try simp only [List.getElem_toArray, List.getElem_cons_zero, List.getElem_cons_succ, Act.put, List.setIfInBounds_toArray, List.set_cons_zero, List.set_cons_succ]
         refine Ord.Till.take' 3 (some 53) (oi := _) (x := ?_) rfl rfl (by kernel_rfl) (by kernel_rfl) (by kernel_rfl) (by kernel_rfl) (fun _ _ _ h => h) (by kernel_rfl) ?_ hS1 ?_
         rotate_left 1
         · intro v hv; obtain ⟨z0, z1, z2⟩ := hv; go_simp; first | done | with_reducible rfl
         try simp only [List.getElem_toArray, List.getElem_cons_zero, List.getElem_cons_succ, Act.put, List.setIfInBounds_toArray, List.set_cons_zero, List.set_cons_succ]
         refine Ord.Till.take' 4 (some 54) (oi := _) (x := ?_) rfl rfl (by kernel_rfl) (by kernel_rfl) (by kernel_rfl) (by kernel_rfl) (fun _ _ _ h => h) (by kernel_rfl) ?_ hS1 ?_
         rotate_left 1
         · intro v hv; obtain ⟨z0, z1, z2⟩ := hv; go_simp; first | done | with_reducible rfl
         try simp only [List.getElem_toArray, List.getElem_cons_zero, List.getElem_cons_succ, Act.put, List.setIfInBounds_toArray, List.set_cons_zero, List.set_cons_succ]
         refine Ord.Till.take' 5 (some 55) (oi := _) (x := ?_) rfl rfl (by kernel_rfl) (by kernel_rfl) (by kernel_rfl) (by kernel_rfl) (fun _ _ _ h => h) (by kernel_rfl) ?_ hS1 ?_
         rotate_left 1
         · intro v hv; obtain ⟨z0, z1, z2⟩ := hv; go_simp; first | done | with_reducible rfl
         try simp only [List.getElem_toArray, List.getElem_cons_zero, List.getElem_cons_succ, Act.put, List.setIfInBounds_toArray, List.set_cons_zero, List.set_cons_succ]
         refine Ord.Till.take' 6 (some 56) (oi := _) (x := ?_) rfl rfl (by kernel_rfl) (by kernel_rfl) (by kernel_rfl) (by kernel_rfl) (fun _ _ _ h => h) (by kernel_rfl) ?_ hS1 ?_
         rotate_left 1
         · intro v hv; obtain ⟨z0, z1, z2⟩ := hv; go_simp; first | done | with_reducible rfl
         try simp only [List.getElem_toArray, List.getElem_cons_zero, List.getElem_cons_succ, Act.put, List.setIfInBounds_toArray, List.set_cons_zero, List.set_cons_succ]
         refine Ord.Till.take' 7 (some 57) (oi := _) (x := ?_) rfl rfl (by kernel_rfl) (by kernel_rfl) (by kernel_rfl) (by kernel_rfl) (fun _ _ _ h => h) (by kernel_rfl) ?_ hS1 ?_
         rotate_left 1
         · intro v hv; obtain ⟨z0, z1, z2⟩ := hv; go_simp; first | done | with_reducible rfl
         try simp only [List.getElem_toArray, List.getElem_cons_zero, List.getElem_cons_succ, Act.put, List.setIfInBounds_toArray, List.set_cons_zero, List.set_cons_succ]
         refine Ord.Till.take' 8 (some 58) (oi := _) (x := ?_) rfl rfl (by kernel_rfl) (by kernel_rfl) (by kernel_rfl) (by kernel_rfl) (fun _ _ _ h => h) (by kernel_rfl) ?_ hS1 ?_
         rotate_left 1
         · intro v hv; obtain ⟨z0, z1, z2⟩ := hv; go_simp; first | done | with_reducible rfl
         try simp only [List.getElem_toArray, List.getElem_cons_zero, List.getElem_cons_succ, Act.put, List.setIfInBounds_toArray, List.set_cons_zero, List.set_cons_succ]
         refine Ord.Till.take' 9 (some 59) (oi := _) (x := ?_) rfl rfl (by kernel_rfl) (by kernel_rfl) (by kernel_rfl) (by kernel_rfl) (fun _ _ _ h => h) (by kernel_rfl) ?_ hS1 ?_
         rotate_left 1
         · intro v hv; obtain ⟨z0, z1, z2⟩ := hv; go_simp; first | done | with_reducible rfl
         try simp only [List.getElem_toArray, List.getElem_cons_zero, List.getElem_cons_succ, Act.put, List.setIfInBounds_toArray, List.set_cons_zero, List.set_cons_succ]
         refine Ord.Till.take' 10 (some 60) (oi := _) (x := ?_) rfl rfl (by kernel_rfl) (by kernel_rfl) (by kernel_rfl) (by kernel_rfl) (fun _ _ _ h => h) (by kernel_rfl) ?_ hS1 ?_
         rotate_left 1
         · intro v hv; obtain ⟨z0, z1, z2⟩ := hv; go_simp; first | done | with_reducible rfl
         try simp only [List.getElem_toArray, List.getElem_cons_zero, List.getElem_cons_succ, Act.put, List.setIfInBounds_toArray, List.set_cons_zero, List.set_cons_succ]
         refine Ord.Till.take' 11 (some 61) (oi := _) (x := ?_) rfl rfl (by kernel_rfl) (by kernel_rfl) (by kernel_rfl) (by kernel_rfl) (fun _ _ _ h => h) (by kernel_rfl) ?_ hS1 ?_
         rotate_left 1
         · intro v hv; obtain ⟨z0, z1, z2⟩ := hv; go_simp; first | done | with_reducible rfl
         try simp only [List.getElem_toArray, List.getElem_cons_zero, List.getElem_cons_succ, Act.put, List.setIfInBounds_toArray, List.set_cons_zero, List.set_cons_succ]
         refine Ord.Till.take' 12 (some 62) (oi := _) (x := ?_) rfl rfl (by kernel_rfl) (by kernel_rfl) (by kernel_rfl) (by kernel_rfl) (fun _ _ _ h => h) (by kernel_rfl) ?_ hS1 ?_
         rotate_left 1
         · intro v hv; obtain ⟨z0, z1, z2⟩ := hv; go_simp; first | done | with_reducible rfl
         try simp only [List.getElem_toArray, List.getElem_cons_zero, List.getElem_cons_succ, Act.put, List.setIfInBounds_toArray, List.set_cons_zero, List.set_cons_succ]
         refine Ord.Till.take' 13 (some 63) (oi := _) (x := ?_) rfl rfl (by kernel_rfl) (by kernel_rfl) (by kernel_rfl) (by kernel_rfl) (fun _ _ _ h => h) (by kernel_rfl) ?_ hS1 ?_
         rotate_left 1
         · intro v hv; obtain ⟨z0, z1, z2⟩ := hv; go_simp; first | done | with_reducible rfl
         try simp only [List.getElem_toArray, List.getElem_cons_zero, List.getElem_cons_succ, Act.put, List.setIfInBounds_toArray, List.set_cons_zero, List.set_cons_succ]
         refine Ord.Till.take' 14 (some 64) (oi := _) (x := ?_) rfl rfl (by kernel_rfl) (by kernel_rfl) (by kernel_rfl) (by kernel_rfl) (fun _ _ _ h => h) (by kernel_rfl) ?_ hS1 ?_
         rotate_left 1
         · intro v hv; obtain ⟨z0, z1, z2⟩ := hv; go_simp; first | done | with_reducible rfl
         try simp only [List.getElem_toArray, List.getElem_cons_zero, List.getElem_cons_succ, Act.put, List.setIfInBounds_toArray, List.set_cons_zero, List.set_cons_succ]
         refine Ord.Till.step 15 (by kernel_rfl) rfl (fun C hC => ?_)
         go_simp
         have hbA := (Below.refl wd.heap.size wd).alloc (Nat.le_refl _) (.cells #[.string s, .int .i64 opv] 95)
         have hnew := heap_alloc_new wd (.cells #[.string s, .int .i64 opv] 95)
         have hE2 := hE1.below hbA
         have hS2' := hS1'.below hbA
         have hL2 := hL1.below hbA
         have hb2 := hb1.trans (But.below hbA)
         have hRow2 := (hbA.block B hBd).trans hRow1
         have hK2 : K ≤ (wd.alloc (.cells #[.string s, .int .i64 opv] 95)).heap.size := Nat.le_trans hKd hbA.size
         have hS2 : (fun W' => W'.cell? ⟨B, 6, none⟩ = some (.slice A4 (j + q) c4) ∧ W'.cell? ⟨B, 4, none⟩ = some (.slice (some ⟨bo, oo, none⟩) on oc) ∧ W'.cell? ⟨bo, oo + k, none⟩ = some (.int .i64 opv)) (wd.alloc (.cells #[.string s, .int .i64 opv] 95)) := ⟨cell_of_row _ B 6 _ _ _ hRow2, cell_of_row _ B 4 _ _ _ hRow2, HOc.out _ hb2⟩
         refine hC.out _ _ (fun _ => hS2) ?_
         clear hC C hS1 hE1 hS1' hL1 hb1 hRow1 hbA
         try simp only [List.getElem_toArray, List.getElem_cons_zero, List.getElem_cons_succ, Act.put, List.setIfInBounds_toArray, List.set_cons_zero, List.set_cons_succ]
         refine Ord.Till.step 16 (by kernel_rfl) rfl (fun C hC => ?_)
         refine Cel.step_app Amp.kE _ K (.slice A4 (j + q) c4) (j + q) _ hE2 hK2 ⟨wd.heap.size, 0, none⟩ 1 1 [.string s, .int .i64 opv] rfl (by simp [Value.oneCell']) (World.news_of_block (cs := #[.string s, .int .i64 opv]) (t := 95) (fr := (0, 0)) hnew) (by omega) (by omega) rfl (.tmp 54) (.tmp 65) rfl rfl rfl ?_
         intro v4 w8 ho8 hb8 hot8 _
         obtain ⟨A8', c8', rfl, _⟩ := ho8.reads
         have hRow3 := row_oth hRow2 hot8 cons_ent
         have hS3' := sown_oth hS2' hot8 str_ent
         have hL3 := ownL_oth hL2 hot8 lst_ent str_ent
         have hb3 := But.own hb2 hb8 HK0.out
         have hS3 : (fun W' => W'.cell? ⟨B, 6, none⟩ = some (.slice A4 (j + q) c4) ∧ W'.cell? ⟨B, 4, none⟩ = some (.slice (some ⟨bo, oo, none⟩) on oc) ∧ W'.cell? ⟨bo, oo + k, none⟩ = some (.int .i64 opv)) w8 := ⟨cell_of_row _ B 6 _ _ _ hRow3, cell_of_row _ B 4 _ _ _ hRow3, HOc.out _ hb3⟩
         refine hC.out _ _ (fun _ => hS3) ?_
         clear hC C hS2 hE2 hS2' hL2 hb2 hRow2 hot8 hnew hb8 hK2
         try simp only [List.getElem_toArray, List.getElem_cons_zero, List.getElem_cons_succ, Act.put, List.setIfInBounds_toArray, List.set_cons_zero, List.set_cons_succ]
         refine Ord.Till.step 17 (by kernel_rfl) rfl (fun C hC => ?_)
         go_simp
         refine hC.out _ _ (fun _ => hS3) ?_
         clear hC C
         try simp only [List.getElem_toArray, List.getElem_cons_zero, List.getElem_cons_succ, Act.put, List.setIfInBounds_toArray, List.set_cons_zero, List.set_cons_succ]
         refine Ord.Till.step 18 (by kernel_rfl) rfl (fun C hC => ?_)
         go_simp
         refine hC.out _ _ (fun _ => hS3) ?_
         clear hC C
         try simp only [List.getElem_toArray, List.getElem_cons_zero, List.getElem_cons_succ, Act.put, List.setIfInBounds_toArray, List.set_cons_zero, List.set_cons_succ]
         have f3 : ∀ o, w8.frozen? ⟨B, o, none⟩ = false := fun o => frozen_of_row w8 B o _ _ hRow3
         have g6 := hS3.1
         refine Ord.Till.step 19 (by kernel_rfl) rfl (fun C hC => ?_)
         go_simp
         refine hC.out _ _ (fun hz => absurd rfl hz) ?_
         clear hC C
         try simp only [List.getElem_toArray, List.getElem_cons_zero, List.getElem_cons_succ, Act.put, List.setIfInBounds_toArray, List.set_cons_zero, List.set_cons_succ]
         refine Ord.Till.done (by kernel_rfl) ?_ _
         have hRow4 := heap_setCell_same w8 B 6 _ _ (.slice A8' (j + q + 1) c8') hRow3
         have hset := But.set (B := B) w8 6 (.slice A8' (j + q + 1) c8')
         have hL4 := ownL_but hL3 hBs hset
         have hS4 := sls_but hS3' hBs hset
         have hb4 := hb3.trans hset
         have hE4 := cel_but ho8 hBs hset
         rw [← HTs.out] at hE4
         clear hS3 f3 g6 hRow3 hset hL3 hS3' hb3 ho8 hBd hKd
         go_wp2_with fail
         go_roundw
         · exact ⟨q + 1, A8', c8', by go_num, by omega, hRow4, hE4, hS4, hL4, hb4⟩
         · simp [intOf]; omega
       · obtain rfl : q = n7 := by omega
         have hqi : ¬ (q : Int) < (q : Int) := by omega
         have e1 : ds.take q = ds := List.take_of_length_le (by have := Hn7.out; omega)
         rw [e1, ← HTe.out] at hE
         clear e1 hS
         go_wp2_with fail
         go_roundw
         · exact ⟨k + 1, j + q, A4, c4, A8, c8, by go_num, by omega, hid Hlen2.out.symm, hRow, hE, hL, hb⟩
         · simp [intOf]; omega
   · obtain rfl : k = on := by omega
     have hki : ¬ (k : Int) < (k : Int) := by omega
     have hT : (xms.map Mem.pure).take k = xms.map Mem.pure := List.take_of_length_le (by rw [List.length_map]; have := Hl.out; omega)
     have hT2 : xos.take k = xos := List.take_of_length_le (by rw [Hlen.out]; have := Hl.out; omega)
     have hT3 : (defsP (xms.map Mem.pure)).take k = defsP (xms.map Mem.pure) := List.take_of_length_le (by simp only [defsP, List.length_map]; have := Hl.out; omega)
     rw [hT, hT2] at hE
     rw [hT3] at hL
     have hB := HB0.out.trans hb
     clear hT hT2 hT3 Hj hb
     go_wp2_with fail
     have hK := HKw.out
     subst hK
     go_ret2
     exact ⟨rfl, A1, j, c1, D, k, dc, hRow, hE, hL, hB⟩
end Go.Proofs.YtjobmkodgodloaaGreatDoor.Con

namespace Go.Proofs.YtjobmkodgodloaaGreatDoor.Con
open Go.RowKit Go.Proofs Go.Proofs.YtjobmkodgodloaaGreatDoor.Byt
open Go.Proofs.YtjobmkodgodloaaGreatDoor.Lnm (Gnd)
open Go.Proofs.YtjobmkodgodloaaGreatDoor.Sls (Oth)
open Go.Proofs.YtjobmkodgodloaaGreatDoor.Arp (Mem St Pm ar Arc RdA RdM RdI OwnM OwnA But)
open Go.Proofs.YtjobmkodgodloaaGreatDoor.Six (defs RdL OwnL)
open Go.Proofs.YtjobmkodgodloaaGreatDoor.Amp (En RdE ecells decA decE decZ sameE sameE_len guard_ent neq_ent)

set_option linter.unusedSimpArgs false in
set_option maxRecDepth 100000 in
set_option maxHeartbeats 2000000 in
theorem sliceEq_any (K : Nat) (A A' : Option Addr) (n c n' c' : Nat) (xs ys : List En) (w : World) (h : RdE w K A n xs) (h' : RdE w K A' n' ys) (hK : K ≤ w.heap.size) (hn : n ≤ 140737488355328) :
   Calls Tryz.prog 73 #[.slice A n c, .slice A' n' c'] w fun e w' => e = .returned (.bool (sameE xs ys)) ∧ Below w.heap.size w w' := by
 have Hl := hid h.1
 have Hl' := hid h'.1
 by_cases hne : n = n'
 · subst hne
   have hnb : ((n : Int) != (n : Int)) = false := by simp
   go_enter Tryz.func73, Tryz.ntmps73
   go_wp2_with fail
   go_loopw [13] (fun i W => ∃ k : Nat, i = .int .i64 (k : Int) ∧ k ≤ n ∧ Hid (sameE xs ys = sameE (xs.drop k) (ys.drop k)) ∧ Below w.heap.size w W) (fun i _ => n - (intOf i).toNat)
   case atStart => exact ⟨0, rfl, by omega, hid rfl, Below.refl _ _⟩
   case round =>
     obtain ⟨k, rfl, hk, hG, hb⟩ := hrel
     by_cases hlt : k < n
     · have hkl : k < xs.length := by have := Hl.out; omega
       have hkl' : k < ys.length := by have := Hl'.out; omega
       have hki : (k : Int) < (n : Int) := by omega
       have hR := h.below (hb.mono hK)
       have hR' := h'.below (hb.mono hK)
       obtain ⟨b, o, rfl, hbK, hcell⟩ := hR.2 k hkl
       obtain ⟨b', o', rfl, hbK', hcell'⟩ := hR'.2 k hkl'
       have HS : Hid (sameE (xs.drop k) (ys.drop k) = (xs[k].eq ys[k] && sameE (xs.drop (k + 1)) (ys.drop (k + 1)))) := hid (by rw [List.drop_eq_getElem_cons hkl, List.drop_eq_getElem_cons hkl']; rfl)
       generalize xs[k] = x at *
       generalize ys[k] = y at *
       obtain ⟨x0, x1⟩ := x
       obtain ⟨y0, y1⟩ := y
       obtain ⟨p0, p1⟩ := hcell
       obtain ⟨s0, s1⟩ := hcell'
       have hgd := guard_ent
       have hne := neq_ent
       cases hq : En.eq ⟨x0, x1⟩ ⟨y0, y1⟩
       · have HR : Hid (sameE xs ys = false) := hid (by rw [hG.out, HS.out, hq]; rfl)
         go_wp2_with fail
         go_quiet (fail)
         go_wp2_with fail
         go_ret
         exact ⟨ret_bool HR.out.symm, hb.trans ⟨rfl, rfl, rfl, Nat.le_refl _, fun _ _ => rfl⟩⟩
       · have HR : Hid (sameE xs ys = sameE (xs.drop (k + 1)) (ys.drop (k + 1))) := hid (by rw [hG.out, HS.out, hq]; rfl)
         go_wp2_with fail
         go_quiet (fail)
         go_wp2_with fail
         go_roundw
         · exact ⟨k + 1, by go_num, by omega, HR, hb.trans ⟨rfl, rfl, rfl, Nat.le_refl _, fun _ _ => rfl⟩⟩
         · simp [intOf]; omega
     · obtain rfl : k = n := by omega
       have HR : Hid (sameE xs ys = true) := hid (by rw [hG.out, List.drop_eq_nil_of_le (by have := Hl.out; omega), List.drop_eq_nil_of_le (by have := Hl'.out; omega)]; rfl)
       go_wp2_with fail
       go_ret
       exact ⟨ret_bool HR.out.symm, hb⟩
 · have hnb : ((n : Int) != (n' : Int)) = true := by simp; omega
   have HR : Hid (sameE xs ys = false) := hid (by
     cases h : sameE xs ys with
     | false => rfl
     | true => exact absurd (sameE_len h) (by rw [Hl.out, Hl'.out]; exact hne))
   go_enter Tryz.func73, Tryz.ntmps73
   go_wp2_with fail
   go_ret
   exact ⟨ret_bool HR.out.symm, Below.refl _ _⟩

theorem keep2 {V W W1 : World} {p q : Addr} {a b : Value} (h : W.cell? p = some a ∧ W.cell? q = some b ∧ Below V.heap.size V W) (hb : Below W.heap.size W W1) :
   W1.cell? p = some a ∧ W1.cell? q = some b ∧ Below V.heap.size V W1 := by
 obtain ⟨h0, h1, h4⟩ := h
 exact ⟨cell_keep hb h0, cell_keep hb h1, h4.trans (hb.mono h4.size)⟩
theorem held2 {V W : World} {p q : Addr} {a b : Value} (h : W.cell? p = some a ∧ W.cell? q = some b ∧ Below V.heap.size V W) : Below V.heap.size V W := h.2.2

set_option linter.unusedSimpArgs false in
set_option maxRecDepth 100000 in
set_option maxHeartbeats 2000000 in
theorem compare_any (B : Nat) (b h mp ms os D : Value) (A A' : Option Addr) (n c n' c' : Nat) (ls es : List En) (w : World)
   (hrow : w.heap[B]? = some (.cells #[b, h, mp, ms, os, .slice A n c, .slice A' n' c', D] 75 (0, 0))) (hl : RdE w w.heap.size A n ls) (he : RdE w w.heap.size A' n' es) (hn : n ≤ 140737488355328) :
   Calls Tryz.prog 53 #[.pointer (some ⟨B, 0, none⟩)] w fun e w' => e = .returned (.tuple #[.int .i64 (if sameE ls es = true then 0 else 8), .int .i64 (if sameE ls es = true then 0 else 16)]) ∧ Below w.heap.size w w' := by
 have c5 := cell_of_row _ B 5 _ _ _ hrow
 have c6 := cell_of_row _ B 6 _ _ _ hrow
 have HT : Hid (∀ W, Below w.heap.size w W → Calls Tryz.prog 73 #[.slice A n c, .slice A' n' c'] W fun e w' => e = .returned (.bool (sameE ls es)) ∧ Below W.heap.size W w') := hid fun W hW =>
   sliceEq_any W.heap.size A A' n c n' c' ls es W ((hl.below hW).more hW.size) ((he.below hW).more hW.size) (Nat.le_refl _) hn
 have hbd : Below w.heap.size w w.drew := (Below.refl _ _).drew
 clear hrow hl he hn
 go_enter Tryz.func53, Tryz.ntmps53
 cases hs : sameE ls es
 · rw [hs] at HT
   clear hs
   go_upto_region 1 with fail
   go_region_held3 (fun W' => W'.cell? ⟨B, 5, none⟩ = some (.slice A n c) ∧ W'.cell? ⟨B, 6, none⟩ = some (.slice A' n' c') ∧ Below w.heap.size w W')
     (first | exact ⟨c5, c6, hbd⟩ | exact keep2 (by assumption) hbX)
     (first
       | (go_at_call 73; refine (HT.out _ (by first | assumption | exact held2 (by assumption))).mono ?_; rintro e w' ⟨rfl, hbX⟩)
       | fail)
   rename_i hh
   have hZ := held2 hh
   clear hh
   go_wp2_with fail
   go_ret2
   exact ⟨by simp, hZ⟩
 · rw [hs] at HT
   clear hs
   go_upto_region 1 with fail
   go_region_held3 (fun W' => W'.cell? ⟨B, 5, none⟩ = some (.slice A n c) ∧ W'.cell? ⟨B, 6, none⟩ = some (.slice A' n' c') ∧ Below w.heap.size w W')
     (first | exact ⟨c5, c6, hbd⟩ | exact keep2 (by assumption) hbX)
     (first
       | (go_at_call 73; refine (HT.out _ (by first | assumption | exact held2 (by assumption))).mono ?_; rintro e w' ⟨rfl, hbX⟩)
       | fail)
   rename_i hh
   have hZ := held2 hh
   clear hh
   go_wp2_with fail
   go_ret2
   exact ⟨by simp, hZ⟩

def MapP (B : Nat) (b : Value) (x : Arc) (s : St) (w : World) (e : Ending) (w' : World) : Prop :=
 ∃ z A n c, e = .returned (.tuple #[.int .i64 8, .int .i64 z]) ∧ w'.heap[B]? = some (.cells #[b, .bool x.hasMap, .slice x.mp x.mn x.mc, .slice x.ap x.an x.ac, .slice x.op x.on x.oc, .slice A n c, .slice none 0 0, .slice none 0 0] 75 (0, 0)) ∧ But B w w' ∧
   ((z = 0 ∧ ∃ ls, RdEX w' B A n ls ∧ n ≤ 140737488355328 ∧ chk s = if sameE ls (aidx s) = true then 0 else 16) ∨ (z ≠ 0 ∧ chk s = z))

set_option linter.unusedSimpArgs false in
set_option maxRecDepth 100000 in
set_option maxHeartbeats 2000000 in
theorem readMap_any (B : Nat) (b : Value) (x : Arc) (w : World) (hrow : w.heap[B]? = some (.cells #[b, .bool x.hasMap, .slice x.mp x.mn x.mc, .slice x.ap x.an x.ac, .slice x.op x.on x.oc, .slice none 0 0, .slice none 0 0, .slice none 0 0] 75 (0, 0))) (hx : ArgX w B x) (s : St) (hs : x.is s) :
   Calls Tryz.prog 52 #[.pointer (some ⟨B, 0, none⟩)] w (MapP B b x s w) := by
 have hrd := hx.here.rd.1
 have hml := hx.mlen
 have hmc := hx.mcap
 have HM : Hid (x.hasMap = s.hasMap) := hid hs.1
 have HMp : Hid (x.map = s.map) := hid hs.2.1
 have hBs : B < w.heap.size := (Array.getElem?_eq_some_iff.1 hrow).1
 clear hx hs
 obtain ⟨xh, mp, mn, mc, xm, ap, an, ac, xms, op, on, oc, xos⟩ := x
 simp only at hrow hrd hml hmc HM HMp
 have c1 := cell_of_row _ B 1 _ _ _ hrow
 have c2 := cell_of_row _ B 2 _ _ _ hrow
 have HR := hid hrow
 clear hrow
 go_enter Tryz.func52, Tryz.ntmps52
 cases xh
 · have hP : MapP B b ⟨false, mp, mn, mc, xm, ap, an, ac, xms, op, on, oc, xos⟩ s w (.returned (.tuple #[.int .i64 8, .int .i64 0])) w :=
     ⟨0, none, 0, 0, rfl, HR.out, But.refl _ _, .inl ⟨rfl, [], RdEX.nil _ _, by omega, chk_same (.inr ⟨HM.out.symm, rfl⟩)⟩⟩
   clear hrd hml hmc c2
   go_wp2_with fail
   go_ret2
   exact hP
 · have HD := hid (Amp.decP_any w.heap.size mp mn mc xm w hrd (Nat.le_refl _) hmc.1 hmc.2 (by omega))
   have Hxm : Hid (xm.length ≤ 100000) := hid (by rw [hrd.1]; exact hml)
   clear hrd hml hmc
   go_wp2_with fail
   refine HD.out.mono ?_
   rintro e w1 ⟨A, n, c, rfl, ho, hb⟩
   have hrow1 := (hb.block B hBs).trans HR.out
   have hrow2 := heap_setCell_same w1 B 5 _ _ (.slice A n c) hrow1
   have hbut : But B w (w1.setCell ⟨B, 5, none⟩ (.slice A n c)) := (But.below hb).trans (But.set w1 5 _)
   have f1 : ∀ o, w1.frozen? ⟨B, o, none⟩ = false := fun o => frozen_of_row w1 B o _ _ hrow1
   have c5 := cell_of_row _ B 5 _ _ _ hrow1
   have ho2 := cel_but ho hBs (But.set w1 5 (.slice A n c))
   have hnl : n ≤ 140737488355328 := by
     have h1 := (Amp.rde_own ho).1
     have h3 := Hxm.out
     rcases Amp.dec_known xm with ⟨_, h2⟩ | ⟨_, _, _, h2, _⟩
     · rw [h2] at h1; simp at h1; omega
     · omega
   have hP : MapP B b ⟨true, mp, mn, mc, xm, ap, an, ac, xms, op, on, oc, xos⟩ s w (.returned (.tuple #[.int .i64 8, .int .i64 (decZ xm)])) (w1.setCell ⟨B, 5, none⟩ (.slice A n c)) := by
     refine ⟨decZ xm, A, n, c, rfl, hrow2, hbut, ?_⟩
     by_cases hz : decZ xm = 0
     · refine .inl ⟨hz, decE xm, RdEX.of_own ho2 hBs, hnl, ?_⟩
       rw [show xm = s.map from HMp.out] at hz ⊢
       exact chk_same (.inl ⟨HM.out.symm, hz, rfl⟩)
     · refine .inr ⟨hz, ?_⟩
       have h8 : decZ xm = 8 := by
         rcases Amp.dec_known xm with ⟨h, _⟩ | ⟨h, _⟩
         · exact h
         · exact absurd h hz
       rw [h8]
       rw [show xm = s.map from HMp.out] at hz
       unfold chk
       rw [if_pos HM.out.symm, if_neg hz]
   clear hnl ho2 hrow1 hrow2 hbut ho hb c1 c2
   generalize decZ xm = z at *
   go_wp2_with fail
   go_ret2
   exact hP
end Go.Proofs.YtjobmkodgodloaaGreatDoor.Con

namespace Go.Proofs.YtjobmkodgodloaaGreatDoor.Con
open Go.RowKit Go.Proofs Go.Proofs.YtjobmkodgodloaaGreatDoor.Byt
open Go.Proofs.YtjobmkodgodloaaGreatDoor.Hdr (wpList_built wpList_stored)

def fns : Array Value := #[.func (.func 51) #[] #[], .func (.func 52) #[] #[], .func (.func 36) #[] #[], .func (.func 53) #[] #[]]
theorem built_fns (w : World) : (Instr.build 78 #[(0, .func (.func 51) #[] #[]), (1, .func (.func 52) #[] #[]), (2, .func (.func 36) #[] #[]), (3, .func (.func 53) #[] #[])]).run Tryz.prog w = .ok (.agg fns) w := by kernel_rfl
set_option maxRecDepth 100000 in
set_option maxHeartbeats 1000000 in
theorem steps_any (w : World) : Calls Tryz.prog 30 #[] w fun e w' => e = .returned (.agg fns) ∧ Below w.heap.size w w' := by
 go_enter Tryz.func30, Tryz.ntmps30
 go_upto_region 1 with (fail)
 go_step
 refine wpList_built (some 1) rfl rfl _ _ rfl _ _ (built_fns _) (by kernel_rfl) ?_
 refine wpList_stored rfl rfl _ _ _ rfl _ _ rfl rfl (run_storeAt_new w 78 _ fns (by kernel_rfl) (by kernel_rfl) (by kernel_rfl)) ?_
 go_wp2
 have hl := run_loadVar_new (P := Tryz.prog) w 78 fns 4 77 Tryz.underlying78 (by kernel_rfl)
 exact bodyPost_ret (v := .agg fns) (by simp [results, Tryz.results30, Act.put, asAddr, hl]) rfl ⟨rfl, (Below.refl _ _).alloc (Nat.le_refl _) _⟩

def StepP (P : World → Prop) (Q : Int → Int → World → Prop) (e : Ending) (w' : World) : Prop :=
 ∃ k z : Int, e = .returned (.tuple #[.int .i64 k, .int .i64 z]) ∧ ((z = 0 ∧ P w') ∨ (z ≠ 0 ∧ Q k z w'))
def RunP (P : World → Prop) (Q : Int → Int → World → Prop) (e : Ending) (w' : World) : Prop :=
 ∃ k z : Int, e = .returned (.tuple #[.int .i64 k, .int .i64 z]) ∧ ((z = 0 ∧ k = 0 ∧ P w') ∨ (z ≠ 0 ∧ Q k z w'))

set_option linter.unusedSimpArgs false in
set_option maxRecDepth 100000 in
set_option maxHeartbeats 2000000 in
theorem run4_any (B C : Nat) (P : Nat → World → Prop) (Q : Int → Int → World → Prop) (hC : ∀ i W, P i W → W.heap[C]? = some (.cells fns 78 (0, 0))) (h0 : ∀ W, P 0 W → Calls Tryz.prog 51 #[.pointer (some ⟨B, 0, none⟩)] W (StepP (P 1) Q)) (h1 : ∀ W, P 1 W → Calls Tryz.prog 52 #[.pointer (some ⟨B, 0, none⟩)] W (StepP (P 2) Q)) (h2 : ∀ W, P 2 W → Calls Tryz.prog 36 #[.pointer (some ⟨B, 0, none⟩)] W (StepP (P 3) Q)) (h3 : ∀ W, P 3 W → Calls Tryz.prog 53 #[.pointer (some ⟨B, 0, none⟩)] W (StepP (P 4) Q)) (w : World) (hp : P 0 w) :
   Calls Tryz.prog 31 #[.pointer (some ⟨B, 0, none⟩), .slice (some ⟨C, 0, none⟩) 4 4] w (RunP (P 4) Q) := by
 have HP0 := hid hp
 have H0 := hid h0
 have H1 := hid h1
 have H2 := hid h2
 have H3 := hid h3
 have HC := hid hC
 clear hp hC h0 h1 h2 h3
 go_enter Tryz.func31, Tryz.ntmps31
 go_wp2_with fail
 go_loopw [12] (fun iv W => ∃ k : Nat, iv = .int .i64 (k : Int) ∧ k ≤ 4 ∧ Hid (P (0 + k) W)) (fun iv _ => 4 - (intOf iv).toNat)
 case atStart => exact ⟨0, rfl, by omega, HP0⟩
 case round =>
   obtain ⟨k, rfl, hk, HP⟩ := hrel
   rcases (show k = 0 ∨ k = 1 ∨ k = 2 ∨ k = 3 ∨ k = 4 from by omega) with rfl | rfl | rfl | rfl | rfl
   · have hk2 := HC.out _ _ HP.out
     have c0 : wr.cell? ⟨C, 0, none⟩ = some (.func (.func 51) #[] #[]) := cell_of_row _ C 0 _ _ _ hk2
     clear hk2
     go_wp2_with fail
     refine (H0.out _ HP.out).mono ?_
     rintro e w1 ⟨a, z, rfl, ⟨hz, hP⟩ | ⟨hz, hQ⟩⟩
     · have HP1 := hid hP
       subst hz
       clear hP HP
       go_wp2_with fail
       go_roundw
       · exact ⟨1, by go_num, by omega, HP1⟩
       · simp [intOf]
     · have HQ : RunP (P 4) Q (.returned (.tuple #[.int .i64 a, .int .i64 z])) w1 := ⟨a, z, rfl, .inr ⟨hz, hQ⟩⟩
       have hzb : (z != 0) = true := by simpa using hz
       clear hQ HP
       go_wp2_with fail
       go_ret2
       exact HQ
   · have hk2 := HC.out _ _ HP.out
     have c1 : wr.cell? ⟨C, 1, none⟩ = some (.func (.func 52) #[] #[]) := cell_of_row _ C 1 _ _ _ hk2
     clear hk2
     go_wp2_with fail
     refine (H1.out _ HP.out).mono ?_
     rintro e w1 ⟨a, z, rfl, ⟨hz, hP⟩ | ⟨hz, hQ⟩⟩
     · have HP1 := hid hP
       subst hz
       clear hP HP
       go_wp2_with fail
       go_roundw
       · exact ⟨2, by go_num, by omega, HP1⟩
       · simp [intOf]
     · have HQ : RunP (P 4) Q (.returned (.tuple #[.int .i64 a, .int .i64 z])) w1 := ⟨a, z, rfl, .inr ⟨hz, hQ⟩⟩
       have hzb : (z != 0) = true := by simpa using hz
       clear hQ HP
       go_wp2_with fail
       go_ret2
       exact HQ
   · have hk2 := HC.out _ _ HP.out
     have c2 : wr.cell? ⟨C, 2, none⟩ = some (.func (.func 36) #[] #[]) := cell_of_row _ C 2 _ _ _ hk2
     clear hk2
     go_wp2_with fail
     refine (H2.out _ HP.out).mono ?_
     rintro e w1 ⟨a, z, rfl, ⟨hz, hP⟩ | ⟨hz, hQ⟩⟩
     · have HP1 := hid hP
       subst hz
       clear hP HP
       go_wp2_with fail
       go_roundw
       · exact ⟨3, by go_num, by omega, HP1⟩
       · simp [intOf]
     · have HQ : RunP (P 4) Q (.returned (.tuple #[.int .i64 a, .int .i64 z])) w1 := ⟨a, z, rfl, .inr ⟨hz, hQ⟩⟩
       have hzb : (z != 0) = true := by simpa using hz
       clear hQ HP
       go_wp2_with fail
       go_ret2
       exact HQ
   · have hk2 := HC.out _ _ HP.out
     have c3 : wr.cell? ⟨C, 3, none⟩ = some (.func (.func 53) #[] #[]) := cell_of_row _ C 3 _ _ _ hk2
     clear hk2
     go_wp2_with fail
     refine (H3.out _ HP.out).mono ?_
     rintro e w1 ⟨a, z, rfl, ⟨hz, hP⟩ | ⟨hz, hQ⟩⟩
     · have HP1 := hid hP
       subst hz
       clear hP HP
       go_wp2_with fail
       go_roundw
       · exact ⟨4, by go_num, by omega, HP1⟩
       · simp [intOf]
     · have HQ : RunP (P 4) Q (.returned (.tuple #[.int .i64 a, .int .i64 z])) w1 := ⟨a, z, rfl, .inr ⟨hz, hQ⟩⟩
       have hzb : (z != 0) = true := by simpa using hz
       clear hQ HP
       go_wp2_with fail
       go_ret2
       exact HQ
   · have HQ : RunP (P 4) Q (.returned (.tuple #[.int .i64 0, .int .i64 0])) wr := ⟨0, 0, rfl, .inl ⟨rfl, rfl, HP.out⟩⟩
     clear HP
     go_wp2_with fail
     go_ret2
     exact HQ

set_option linter.unusedSimpArgs false in
set_option maxRecDepth 100000 in
set_option maxHeartbeats 2000000 in
theorem run3_any (B C : Nat) (P : Nat → World → Prop) (Q : Int → Int → World → Prop) (hC : ∀ i W, P i W → W.heap[C]? = some (.cells fns 78 (0, 0))) (h1 : ∀ W, P 1 W → Calls Tryz.prog 52 #[.pointer (some ⟨B, 0, none⟩)] W (StepP (P 2) Q)) (h2 : ∀ W, P 2 W → Calls Tryz.prog 36 #[.pointer (some ⟨B, 0, none⟩)] W (StepP (P 3) Q)) (h3 : ∀ W, P 3 W → Calls Tryz.prog 53 #[.pointer (some ⟨B, 0, none⟩)] W (StepP (P 4) Q)) (w : World) (hp : P 1 w) :
   Calls Tryz.prog 31 #[.pointer (some ⟨B, 0, none⟩), .slice (some ⟨C, 1, none⟩) 3 3] w (RunP (P 4) Q) := by
 have HP0 := hid hp
 have H1 := hid h1
 have H2 := hid h2
 have H3 := hid h3
 have HC := hid hC
 clear hp hC h1 h2 h3
 go_enter Tryz.func31, Tryz.ntmps31
 go_wp2_with fail
 go_loopw [12] (fun iv W => ∃ k : Nat, iv = .int .i64 (k : Int) ∧ k ≤ 3 ∧ Hid (P (1 + k) W)) (fun iv _ => 3 - (intOf iv).toNat)
 case atStart => exact ⟨0, rfl, by omega, HP0⟩
 case round =>
   obtain ⟨k, rfl, hk, HP⟩ := hrel
   rcases (show k = 0 ∨ k = 1 ∨ k = 2 ∨ k = 3 from by omega) with rfl | rfl | rfl | rfl
   · have hk2 := HC.out _ _ HP.out
     have c1 : wr.cell? ⟨C, 1, none⟩ = some (.func (.func 52) #[] #[]) := cell_of_row _ C 1 _ _ _ hk2
     clear hk2
     go_wp2_with fail
     refine (H1.out _ HP.out).mono ?_
     rintro e w1 ⟨a, z, rfl, ⟨hz, hP⟩ | ⟨hz, hQ⟩⟩
     · have HP1 := hid hP
       subst hz
       clear hP HP
       go_wp2_with fail
       go_roundw
       · exact ⟨1, by go_num, by omega, HP1⟩
       · simp [intOf]
     · have HQ : RunP (P 4) Q (.returned (.tuple #[.int .i64 a, .int .i64 z])) w1 := ⟨a, z, rfl, .inr ⟨hz, hQ⟩⟩
       have hzb : (z != 0) = true := by simpa using hz
       clear hQ HP
       go_wp2_with fail
       go_ret2
       exact HQ
   · have hk2 := HC.out _ _ HP.out
     have c2 : wr.cell? ⟨C, 2, none⟩ = some (.func (.func 36) #[] #[]) := cell_of_row _ C 2 _ _ _ hk2
     clear hk2
     go_wp2_with fail
     refine (H2.out _ HP.out).mono ?_
     rintro e w1 ⟨a, z, rfl, ⟨hz, hP⟩ | ⟨hz, hQ⟩⟩
     · have HP1 := hid hP
       subst hz
       clear hP HP
       go_wp2_with fail
       go_roundw
       · exact ⟨2, by go_num, by omega, HP1⟩
       · simp [intOf]
     · have HQ : RunP (P 4) Q (.returned (.tuple #[.int .i64 a, .int .i64 z])) w1 := ⟨a, z, rfl, .inr ⟨hz, hQ⟩⟩
       have hzb : (z != 0) = true := by simpa using hz
       clear hQ HP
       go_wp2_with fail
       go_ret2
       exact HQ
   · have hk2 := HC.out _ _ HP.out
     have c3 : wr.cell? ⟨C, 3, none⟩ = some (.func (.func 53) #[] #[]) := cell_of_row _ C 3 _ _ _ hk2
     clear hk2
     go_wp2_with fail
     refine (H3.out _ HP.out).mono ?_
     rintro e w1 ⟨a, z, rfl, ⟨hz, hP⟩ | ⟨hz, hQ⟩⟩
     · have HP1 := hid hP
       subst hz
       clear hP HP
       go_wp2_with fail
       go_roundw
       · exact ⟨3, by go_num, by omega, HP1⟩
       · simp [intOf]
     · have HQ : RunP (P 4) Q (.returned (.tuple #[.int .i64 a, .int .i64 z])) w1 := ⟨a, z, rfl, .inr ⟨hz, hQ⟩⟩
       have hzb : (z != 0) = true := by simpa using hz
       clear hQ HP
       go_wp2_with fail
       go_ret2
       exact HQ
   · have HQ : RunP (P 4) Q (.returned (.tuple #[.int .i64 0, .int .i64 0])) wr := ⟨0, 0, rfl, .inl ⟨rfl, rfl, HP.out⟩⟩
     clear HP
     go_wp2_with fail
     go_ret2
     exact HQ
end Go.Proofs.YtjobmkodgodloaaGreatDoor.Con

namespace Go.Proofs.YtjobmkodgodloaaGreatDoor.Con
open Go.RowKit Go.Proofs Go.Proofs.YtjobmkodgodloaaGreatDoor.Byt
open Go.Proofs.YtjobmkodgodloaaGreatDoor.Lnm (Gnd)
open Go.Proofs.YtjobmkodgodloaaGreatDoor.Arp (Mem St Pm ar Arc RdA RdM RdI OwnM OwnA But)
open Go.Proofs.YtjobmkodgodloaaGreatDoor.Six (defs RdL OwnL)
open Go.Proofs.YtjobmkodgodloaaGreatDoor.Amp (En RdE ecells decA decE decZ sameE)

structure Sta (F : World → Prop) (B : Nat) (b : Value) (x : Arc) (L A D : Value) (W : World) : Prop where
 row : W.heap[B]? = some (.cells #[b, .bool x.hasMap, .slice x.mp x.mn x.mc, .slice x.ap x.an x.ac, .slice x.op x.on x.oc, L, A, D] 75 (0, 0))
 arg : ArgX W B x
 fr : F W
def PS (F : World → Prop) (B : Nat) (b : Value) (x : Arc) (s : St) : Nat → World → Prop
 | 1, W => Sta F B b x (.slice none 0 0) (.slice none 0 0) (.slice none 0 0) W
 | 2, W => ∃ A n c ls, Sta F B b x (.slice A n c) (.slice none 0 0) (.slice none 0 0) W ∧ RdEX W B A n ls ∧ n ≤ 140737488355328 ∧ chk s = if sameE ls (aidx s) = true then 0 else 16
 | 3, W => ∃ A n c ls A' n' c' D m d, Sta F B b x (.slice A n c) (.slice A' n' c') (.slice D m d) W ∧ RdEX W B A n ls ∧ n ≤ 140737488355328 ∧ (chk s = if sameE ls (aidx s) = true then 0 else 16) ∧ RdEX W B A' n' (aidx s) ∧ OwnL W (B + 1) (.slice D m d) m (defsP s.mems)
 | 4, W => ∃ L A D m d, Sta F B b x L A (.slice D m d) W ∧ OwnL W (B + 1) (.slice D m d) m (defsP s.mems) ∧ chk s = 0
 | _, _ => False
def StepB (B : Nat) (W : World) (P : World → Prop) (Q : Int → World → Prop) (e : Ending) (w' : World) : Prop :=
 But B W w' ∧ ∃ k z : Int, e = .returned (.tuple #[.int .i64 k, .int .i64 z]) ∧ ((z = 0 ∧ P w') ∨ (z ≠ 0 ∧ k = 8 ∧ Q z w'))
theorem StepB.step {B : Nat} {W w' : World} {P : World → Prop} {Q : Int → World → Prop} {P' : World → Prop} {Q' : Int → Int → World → Prop} {e : Ending} (h : StepB B W P Q e w') (hP : But B W w' → P w' → P' w') (hQ : ∀ z, z ≠ 0 → Q z w' → Q' 8 z w') : StepP P' Q' e w' := by
 obtain ⟨hb, k, z, rfl, h | ⟨h1, rfl, h2⟩⟩ := h
 · exact ⟨k, z, rfl, .inl ⟨h.1, hP hb h.2⟩⟩
 · exact ⟨8, z, rfl, .inr ⟨h1, hQ z h1 h2⟩⟩

theorem sS1 {F : World → Prop} {B : Nat} {b : Value} {x : Arc} {s : St} (hF : ∀ W W', F W → But B W W' → F W') (hs : x.is s) (W : World) (h : PS F B b x s 1 W) :
   Calls Tryz.prog 52 #[.pointer (some ⟨B, 0, none⟩)] W (StepB B W (PS F B b x s 2) fun z W' => chk s = z ∧ F W') := by
 refine (readMap_any B b x W h.row h.arg s hs).mono ?_
 rintro e w' ⟨z, A, n, c, rfl, hrow, hb, hz⟩
 refine ⟨hb, 8, z, rfl, ?_⟩
 rcases hz with ⟨rfl, ls, h1, h2, h3⟩ | ⟨h1, h2⟩
 · exact .inl ⟨rfl, A, n, c, ls, ⟨hrow, h.arg.but hb, hF _ _ h.fr hb⟩, h1, h2, h3⟩
 · exact .inr ⟨h1, rfl, h2, hF _ _ h.fr hb⟩
theorem sS2 {F : World → Prop} {B : Nat} {b : Value} {x : Arc} {s : St} (hF : ∀ W W', F W → But B W W' → F W') (hs : x.is s) (W : World) (h : PS F B b x s 2 W) :
   Calls Tryz.prog 36 #[.pointer (some ⟨B, 0, none⟩)] W (StepB B W (PS F B b x s 3) fun z W' => chk s = z ∧ F W') := by
 obtain ⟨A, n, c, ls, h, h1, h2, h3⟩ := h
 have hBs : B < W.heap.size := (Array.getElem?_eq_some_iff.1 h.row).1
 refine (indexM_any B b (.slice A n c) x W h.row h.arg).mono ?_
 rintro e w' ⟨A', n', c', D, m, d, rfl, hrow, hE, hL, hb⟩
 rw [aentsX_is hs] at hE
 rw [hs.2.2.1] at hL
 exact ⟨hb, 0, 0, rfl, .inl ⟨rfl, A, n, c, ls, A', n', c', D, m, d, ⟨hrow, h.arg.but hb, hF _ _ h.fr hb⟩, h1.but hb, h2, h3, RdEX.of_own hE hBs, OwnL.more hL (by omega)⟩⟩
theorem sS3 {F : World → Prop} {B : Nat} {b : Value} {x : Arc} {s : St} (hF : ∀ W W', F W → But B W W' → F W') (W : World) (h : PS F B b x s 3 W) :
   Calls Tryz.prog 53 #[.pointer (some ⟨B, 0, none⟩)] W (StepB B W (PS F B b x s 4) fun z W' => chk s = z ∧ F W') := by
 obtain ⟨A, n, c, ls, A', n', c', D, m, d, h, h1, h2, h3, h4, h5⟩ := h
 refine (compare_any B b _ _ _ _ (.slice D m d) A A' n c n' c' ls (aidx s) W h.row (h1 W (But.refl _ _)) (h4 W (But.refl _ _)) h2).mono ?_
 rintro e w' ⟨rfl, hb⟩
 have hbut : But B W w' := But.below hb
 have hrow : w'.heap[B]? = _ := (hb.block B (Array.getElem?_eq_some_iff.1 h.row).1).trans h.row
 refine ⟨hbut, _, _, rfl, ?_⟩
 by_cases hq : sameE ls (aidx s) = true
 · rw [if_pos hq] at h3 ⊢
   exact .inl ⟨rfl, _, _, D, m, d, ⟨hrow, h.arg.but hbut, hF _ _ h.fr hbut⟩, ownL_but h5 (by omega) hbut, h3⟩
 · rw [if_neg hq] at h3 ⊢
   rw [if_neg hq]
   exact .inr ⟨by decide, rfl, h3, hF _ _ h.fr hbut⟩

def set4 (W : World) (B : Nat) (v1 v2 v3 v4 : Value) : World := (((W.setCell ⟨B, 1, none⟩ v1).setCell ⟨B, 2, none⟩ v2).setCell ⟨B, 3, none⟩ v3).setCell ⟨B, 4, none⟩ v4
theorem set4_but (W : World) (B : Nat) (v1 v2 v3 v4 : Value) : But B W (set4 W B v1 v2 v3 v4) := (((But.set W 1 v1).trans (But.set _ 2 v2)).trans (But.set _ 3 v3)).trans (But.set _ 4 v4)
theorem set4_row {W : World} {B : Nat} {c0 c1 c2 c3 c4 c5 c6 c7 : Value} {t : TypeId} (h : W.heap[B]? = some (.cells #[c0, c1, c2, c3, c4, c5, c6, c7] t (0, 0))) (v1 v2 v3 v4 : Value) : (set4 W B v1 v2 v3 v4).heap[B]? = some (.cells #[c0, v1, v2, v3, v4, c5, c6, c7] t (0, 0)) :=
 heap_setCell_same _ B 4 _ _ v4 (heap_setCell_same _ B 3 _ _ v3 (heap_setCell_same _ B 2 _ _ v2 (heap_setCell_same W B 1 _ _ v1 h)))

set_option linter.unusedSimpArgs false in
set_option maxRecDepth 100000 in
set_option maxHeartbeats 2000000 in
theorem parseS_any (B : Nat) (A : Option Addr) (n c : Nat) (l : List UInt8) (w : World) (hrow : w.heap[B]? = some (.cells #[.slice A n c, .bool false, .slice none 0 0, .slice none 0 0, .slice none 0 0, .slice none 0 0, .slice none 0 0, .slice none 0 0] 75 (0, 0)))
   (hg : Gnd w) (hr : Byt.Rd w w.heap.size A n l) (hnc : n ≤ c) (hn : n < 100000) :
   Calls Tryz.prog 51 #[.pointer (some ⟨B, 0, none⟩)] w fun e w' => ∃ x : Arc, e = .returned (.tuple #[.int .i64 ((ar l).2.1 : Nat), .int .i64 (ar l).2.2]) ∧ x.is (ar l).1 ∧ OwnA w' w.heap.size x ∧
     w'.heap[B]? = some (.cells #[.slice A n c, .bool x.hasMap, .slice x.mp x.mn x.mc, .slice x.ap x.an x.ac, .slice x.op x.on x.oc, .slice none 0 0, .slice none 0 0, .slice none 0 0] 75 (0, 0)) ∧ But B w w' := by
 have hBs : B < w.heap.size := (Array.getElem?_eq_some_iff.1 hrow).1
 have HP := hid (Arp.parse_any A n c l w hg hr hnc hn)
 have HR := hid hrow
 have c0 := cell_of_row _ B 0 _ _ _ hrow
 clear hg hr hnc hn hrow
 go_enter Tryz.func51, Tryz.ntmps51
 go_wp2_with fail
 refine HP.out.mono ?_
 rintro e w1 ⟨x, rfl, hx, ho, hb⟩
 have hrow1 := (hb.block B hBs).trans HR.out
 have f1 : ∀ o, w1.frozen? ⟨B, o, none⟩ = false := fun o => frozen_of_row w1 B o _ _ hrow1
 have d1 := cell_of_row _ B 1 _ _ _ hrow1
 have d2 := cell_of_row _ B 2 _ _ _ hrow1
 have d3 := cell_of_row _ B 3 _ _ _ hrow1
 have d4 := cell_of_row _ B 4 _ _ _ hrow1
 have hR : ∃ y : Arc, Ending.returned (.tuple #[.int .i64 ((ar l).2.1 : Nat), .int .i64 (ar l).2.2]) = .returned (.tuple #[.int .i64 ((ar l).2.1 : Nat), .int .i64 (ar l).2.2]) ∧ y.is (ar l).1 ∧ OwnA (set4 w1 B (.bool x.hasMap) (.slice x.mp x.mn x.mc) (.slice x.ap x.an x.ac) (.slice x.op x.on x.oc)) w.heap.size y ∧
     (set4 w1 B (.bool x.hasMap) (.slice x.mp x.mn x.mc) (.slice x.ap x.an x.ac) (.slice x.op x.on x.oc)).heap[B]? = some (.cells #[.slice A n c, .bool y.hasMap, .slice y.mp y.mn y.mc, .slice y.ap y.an y.ac, .slice y.op y.on y.oc, .slice none 0 0, .slice none 0 0, .slice none 0 0] 75 (0, 0)) ∧ But B w (set4 w1 B (.bool x.hasMap) (.slice x.mp x.mn x.mc) (.slice x.ap x.an x.ac) (.slice x.op x.on x.oc)) :=
   ⟨x, rfl, hx, ho.but (set4_but _ _ _ _ _ _) hBs, set4_row hrow1 _ _ _ _, (But.below hb).trans (set4_but _ _ _ _ _ _)⟩
 have HRR := hid hR
 simp only [set4] at HRR
 obtain ⟨xh, mp, mn, mc, xm, ap, an, ac, xms, op, on, oc, xos⟩ := x
 simp only [Arp.Arc.val]
 simp only at HRR
 clear hR hx ho hb hrow1 HP HR c0
 obtain ⟨kk, hkk⟩ : ∃ kk, (ar l).2.1 = kk := ⟨_, rfl⟩
 obtain ⟨zz, hzz⟩ : ∃ zz, (ar l).2.2 = zz := ⟨_, rfl⟩
 rw [hkk, hzz]
 have HK := hid hkk
 have HZ := hid hzz
 clear hkk hzz
 go_wp2_with fail
 go_ret2
 obtain ⟨y, _, h1, h2, h3, h4⟩ := HRR.out
 exact ⟨y, by rw [HK.out, HZ.out]; rfl, h1, h2, h3, h4⟩
end Go.Proofs.YtjobmkodgodloaaGreatDoor.Con

namespace Go.Proofs.YtjobmkodgodloaaGreatDoor.Con
open Go.RowKit Go.Proofs Go.Proofs.YtjobmkodgodloaaGreatDoor.Byt
open Go.Proofs.YtjobmkodgodloaaGreatDoor.Lnm (Gnd)
open Go.Proofs.YtjobmkodgodloaaGreatDoor.Arp (Mem St Pm ar Arc RdA RdM RdI OwnM OwnA But mcells)
open Go.Proofs.YtjobmkodgodloaaGreatDoor.Six (defs RdL OwnL)
open Go.Proofs.YtjobmkodgodloaaGreatDoor.Amp (En RdE ecells decA decE decZ sameE)
open Go.Proofs.YtjobmkodgodloaaGreatDoor.Hdr (wpList_stored)

set_option linter.unusedSimpArgs false in
set_option maxRecDepth 100000 in
set_option maxHeartbeats 2000000 in
theorem pindex_any (x : Arc) (K : Nat) (w : World) (h : ArgA w K x) : Calls Tryz.prog 15 #[x.val] w (EntsP (aentsX x) w) := by
 have hK := h.hK
 have hb1 := (Below.refl w.heap.size w).alloc (Nat.le_refl _) (.cells #[.bool x.hasMap, .slice x.mp x.mn x.mc, .slice x.ap x.an x.ac, .slice x.op x.on x.oc] 38)
 have hs1 := World.size_alloc w (.cells #[.bool x.hasMap, .slice x.mp x.mn x.mc, .slice x.ap x.an x.ac, .slice x.op x.on x.oc] 38)
 have hrow := heap_alloc_new w (.cells #[.bool x.hasMap, .slice x.mp x.mn x.mc, .slice x.ap x.an x.ac, .slice x.op x.on x.oc] 38)
 have hA1 := h.on hb1
 obtain ⟨g, hg⟩ : ∃ g, w.heap.size = g := ⟨_, rfl⟩
 have HI : Hid (∀ W : World, ArgX W (g + 1) x → W.heap[g + 1]? = some (.cells #[.slice none 0 0, .bool x.hasMap, .slice x.mp x.mn x.mc, .slice x.ap x.an x.ac, .slice x.op x.on x.oc, .slice none 0 0, .slice none 0 0, .slice none 0 0] 75 (0, 0)) → Calls Tryz.prog 36 #[.pointer (some ⟨g + 1, 0, none⟩)] W fun e w' => ∃ A n c D m d, e = .returned (.tuple #[.int .i64 0, .int .i64 0]) ∧ w'.heap[g + 1]? = some (.cells #[.slice none 0 0, .bool x.hasMap, .slice x.mp x.mn x.mc, .slice x.ap x.an x.ac, .slice x.op x.on x.oc, .slice none 0 0, .slice A n c, .slice D m d] 75 (0, 0)) ∧
     Cel.Own 95 2 w' W.heap.size (.slice A n c) n (ecells (aentsX x)) ∧ OwnL w' W.heap.size (.slice D m d) m (defsP (x.mems.map Mem.pure)) ∧ But (g + 1) W w') := hid fun W h1 h2 => indexM_any (g + 1) _ _ x W h2 h1
 have HX : Hid (∀ W, Below (w.alloc (.cells #[.bool x.hasMap, .slice x.mp x.mn x.mc, .slice x.ap x.an x.ac, .slice x.op x.on x.oc] 38)).heap.size (w.alloc (.cells #[.bool x.hasMap, .slice x.mp x.mn x.mc, .slice x.ap x.an x.ac, .slice x.op x.on x.oc] 38)) W → ArgX W (g + 1) x) := hid fun W hW => ArgX.of_arg (hA1.on hW) (by omega)
 clear hA1 h
 obtain ⟨xh, mp, mn, mc, xm, ap, an, ac, xms, op, on, oc, xos⟩ := x
 simp only [Arp.Arc.val]
 simp only at hb1 hs1 hrow HI HX
 go_enter Tryz.func15, Tryz.ntmps15
 go_upto_region 1 with fail
 generalize w.alloc (.cells #[.bool xh, .slice mp mn mc, .slice ap an ac, .slice op on oc] 38) = w1 at *
 rw [hg] at hrow hs1 hb1
 try rw [hg]
 have e0 := cell_of_row _ g 0 _ _ _ hrow
 have e1 := cell_of_row _ g 1 _ _ _ hrow
 have e2 := cell_of_row _ g 2 _ _ _ hrow
 have e3 := cell_of_row _ g 3 _ _ _ hrow
 have hb2 := (Below.refl w1.heap.size w1).alloc (Nat.le_refl _) (.cells #[.slice none 0 0, .bool xh, .slice mp mn mc, .slice ap an ac, .slice op on oc, .slice none 0 0, .slice none 0 0, .slice none 0 0] 75)
 have hr2 := heap_alloc_new w1 (.cells #[.slice none 0 0, .bool xh, .slice mp mn mc, .slice ap an ac, .slice op on oc, .slice none 0 0, .slice none 0 0, .slice none 0 0] 75)
 have hs2 := World.size_alloc w1 (.cells #[.slice none 0 0, .bool xh, .slice mp mn mc, .slice ap an ac, .slice op on oc, .slice none 0 0, .slice none 0 0, .slice none 0 0] 75)
 have HC := hid (HI.out _ (HX.out _ hb2) (by rw [← hs1]; exact hr2))
 have B2 := hb1.trans (hb2.mono (by omega))
 clear hrow HI HX hr2 hb2 hb1
 go_upto_region 2 with fail
 generalize w1.alloc (.cells #[.slice none 0 0, .bool xh, .slice mp mn mc, .slice ap an ac, .slice op on oc, .slice none 0 0, .slice none 0 0, .slice none 0 0] 75) = w2 at *
 have hw1 : w1.heap.size = g + 1 := hs1
 rw [hw1] at hs2
 try rw [hw1]
 clear e0 e1 e2 e3 hs1 hw1
 go_wp2_with fail
 refine HC.out.mono ?_
 rintro e w3 ⟨A, n, c, D, m, d, rfl, hrow3, hE, _, hbut⟩
 have c6 := cell_of_row _ (g + 1) 6 _ _ _ hrow3
 have hP : EntsP (aentsX ⟨xh, mp, mn, mc, xm, ap, an, ac, xms, op, on, oc, xos⟩) w (.returned (.slice A n c)) w3 :=
   ⟨A, n, c, rfl, hE.more (by omega), by rw [hg]; exact B2.trans (hbut.to (by omega) (by omega))⟩
 clear hrow3 hE hbut B2 hs2 HC
 go_wp2_with fail
 go_ret
 exact hP

set_option linter.unusedSimpArgs false in
set_option maxRecDepth 100000 in
set_option maxHeartbeats 2000000 in
theorem pcheck_any (x : Arc) (K : Nat) (w : World) (s : St) (h : ArgA w K x) (hs : x.is s) : Calls Tryz.prog 17 #[x.val] w fun e w' => e = .returned (.int .i64 (chk s)) ∧ Below w.heap.size w w' := by
 have hK := h.hK
 have hb1 := (Below.refl w.heap.size w).alloc (Nat.le_refl _) (.cells #[.bool x.hasMap, .slice x.mp x.mn x.mc, .slice x.ap x.an x.ac, .slice x.op x.on x.oc] 38)
 have hs1 := World.size_alloc w (.cells #[.bool x.hasMap, .slice x.mp x.mn x.mc, .slice x.ap x.an x.ac, .slice x.op x.on x.oc] 38)
 have hrow := heap_alloc_new w (.cells #[.bool x.hasMap, .slice x.mp x.mn x.mc, .slice x.ap x.an x.ac, .slice x.op x.on x.oc] 38)
 have hA1 := h.on hb1
 obtain ⟨g, hg⟩ : ∃ g, w.heap.size = g := ⟨_, rfl⟩
 have HX : Hid (∀ W, Below (w.alloc (.cells #[.bool x.hasMap, .slice x.mp x.mn x.mc, .slice x.ap x.an x.ac, .slice x.op x.on x.oc] 38)).heap.size (w.alloc (.cells #[.bool x.hasMap, .slice x.mp x.mn x.mc, .slice x.ap x.an x.ac, .slice x.op x.on x.oc] 38)) W → ArgX W (g + 1) x) := hid fun W hW => ArgX.of_arg (hA1.on hW) (by omega)
 have HRun : Hid (∀ (C : Nat) (W : World), g + 1 < C → Below w.heap.size w W → ArgX W (g + 1) x → W.heap[g + 1]? = some (.cells #[.slice none 0 0, .bool x.hasMap, .slice x.mp x.mn x.mc, .slice x.ap x.an x.ac, .slice x.op x.on x.oc, .slice none 0 0, .slice none 0 0, .slice none 0 0] 75 (0, 0)) → W.heap[C]? = some (.cells fns 78 (0, 0)) →
     Calls Tryz.prog 31 #[.pointer (some ⟨g + 1, 0, none⟩), .slice (some ⟨C, 1, none⟩) 3 3] W fun e w' => ∃ k z : Int, e = .returned (.tuple #[.int .i64 k, .int .i64 z]) ∧ z = chk s ∧ Below w.heap.size w w') := hid fun C W hC hbW hxW hrW hcW => by
   have hF : ∀ W W', (Below w.heap.size w W ∧ W.heap[C]? = some (.cells fns 78 (0, 0))) → But (g + 1) W W' → (Below w.heap.size w W' ∧ W'.heap[C]? = some (.cells fns 78 (0, 0))) := fun W W' h hb =>
     ⟨h.1.trans (hb.to (by omega) h.1.size), (hb.block C (Array.getElem?_eq_some_iff.1 h.2).1 (by omega)).trans h.2⟩
   refine (run3_any (g + 1) C (PS (fun W => Below w.heap.size w W ∧ W.heap[C]? = some (.cells fns 78 (0, 0))) (g + 1) (.slice none 0 0) x s) (fun _ z W => chk s = z ∧ Below w.heap.size w W) ?_ ?_ ?_ ?_ W ⟨hrW, hxW, hbW, hcW⟩).mono ?_
   · intro i W h
     match i, h with
     | 1, h => exact h.fr.2
     | 2, ⟨_, _, _, _, h, _⟩ => exact h.fr.2
     | 3, ⟨_, _, _, _, _, _, _, _, _, _, h, _⟩ => exact h.fr.2
     | 4, ⟨_, _, _, _, _, h, _⟩ => exact h.fr.2
   · exact fun W h => (sS1 hF hs W h).mono fun _ _ h => h.step (fun _ h => h) fun _ _ h => ⟨h.1, h.2.1⟩
   · exact fun W h => (sS2 hF hs W h).mono fun _ _ h => h.step (fun _ h => h) fun _ _ h => ⟨h.1, h.2.1⟩
   · exact fun W h => (sS3 hF W h).mono fun _ _ h => h.step (fun _ h => h) fun _ _ h => ⟨h.1, h.2.1⟩
   · rintro e w' ⟨k, z, rfl, ⟨rfl, _, _, _, _, _, _, h, _, h0⟩ | ⟨_, h1, h2⟩⟩
     · exact ⟨k, 0, rfl, h0.symm, h.fr.1⟩
     · exact ⟨k, z, rfl, h1.symm, h2⟩
 clear hA1 h hs
 obtain ⟨xh, mp, mn, mc, xm, ap, an, ac, xms, op, on, oc, xos⟩ := x
 simp only [Arp.Arc.val]
 simp only at hb1 hs1 hrow HX HRun
 generalize chk s = cz at *
 go_enter Tryz.func17, Tryz.ntmps17
 go_upto_region 1 with fail
 generalize w.alloc (.cells #[.bool xh, .slice mp mn mc, .slice ap an ac, .slice op on oc] 38) = w1 at *
 rw [hg] at hrow hs1 hb1 HRun
 try rw [hg]
 have e0 := cell_of_row _ g 0 _ _ _ hrow
 have e1 := cell_of_row _ g 1 _ _ _ hrow
 have e2 := cell_of_row _ g 2 _ _ _ hrow
 have e3 := cell_of_row _ g 3 _ _ _ hrow
 have hb2 := (Below.refl w1.heap.size w1).alloc (Nat.le_refl _) (.cells #[.slice none 0 0, .bool xh, .slice mp mn mc, .slice ap an ac, .slice op on oc, .slice none 0 0, .slice none 0 0, .slice none 0 0] 75)
 have hr2 := heap_alloc_new w1 (.cells #[.slice none 0 0, .bool xh, .slice mp mn mc, .slice ap an ac, .slice op on oc, .slice none 0 0, .slice none 0 0, .slice none 0 0] 75)
 have hs2 := World.size_alloc w1 (.cells #[.slice none 0 0, .bool xh, .slice mp mn mc, .slice ap an ac, .slice op on oc, .slice none 0 0, .slice none 0 0, .slice none 0 0] 75)
 have HX2 := hid (HX.out _ hb2)
 have B2 := hb1.trans (hb2.mono (by omega))
 clear hrow HX hb2 hb1
 go_upto_region 2 with fail
 generalize w1.alloc (.cells #[.slice none 0 0, .bool xh, .slice mp mn mc, .slice ap an ac, .slice op on oc, .slice none 0 0, .slice none 0 0, .slice none 0 0] 75) = w2 at *
 rw [hs1] at hs2 hr2
 try rw [hs1]
 have HR2 := hid hr2
 clear e0 e1 e2 e3 hs1 hr2
 go_wp2_with fail
 refine (steps_any w2).mono ?_
 rintro e w3 ⟨rfl, hb3⟩
 have hs3 := hb3.size
 have HX3 := hid (HX2.out.but (But.below hb3))
 have HR3 := hid ((hb3.block (g + 1) (by omega)).trans HR2.out)
 have B3 := B2.trans (hb3.mono (by omega))
 have hb4 := (Below.refl w3.heap.size w3).alloc (Nat.le_refl _) (.cells fns 78)
 have hr4 := heap_alloc_new w3 (.cells fns 78)
 have HRun4 := hid (HRun.out w3.heap.size (w3.alloc (.cells fns 78)) (by omega) (B3.trans (hb4.mono (by have := B3.size; omega))) (HX3.out.but (But.below hb4)) ((hb4.block (g + 1) (by omega)).trans HR3.out) hr4)
 clear HX2 HR2 HX3 HR3 hb3 hs3 hs2 B2 B3 hb4 hr4 HRun
 go_upto_region 3 with (refine wpList_stored rfl rfl _ _ _ rfl _ _ rfl rfl (run_storeAt_new _ 78 _ fns (by kernel_rfl) (by kernel_rfl) (by kernel_rfl)) ?_)
 generalize w3.alloc (.cells fns 78) = w4 at *
 go_wp2_with fail
 refine HRun4.out.mono ?_
 rintro e w5 ⟨k, z, rfl, rfl, hb5⟩
 clear HRun4
 go_wp2_with fail
 go_ret
 exact ⟨rfl, by rw [hg]; exact hb5⟩

theorem load_viewP (w : World) (B : Nat) (cs : Array Value) (h : w.heap[B]? = some (.cells cs 27 (0, 0))) (hs : cs.size = 2) :
   (loadVar 27 ⟨B, 0, none⟩).run Tryz.prog w = .ok (.agg cs) w :=
 run_loadVar_row w B 27 27 cs (0, 0) _ h Tryz.underlying27 rfl (by rw [hs]; kernel_rfl)
def FrO (w : World) (G C : Nat) (W : World) : Prop := Below w.heap.size w W ∧ W.heap[C]? = some (.cells fns 78 (0, 0)) ∧ W.heap[G]? = some (.cells #[.slice none 0 0, .slice none 0 0] 27 (0, 0))
theorem FrO.but {w : World} {G C B : Nat} (hG : w.heap.size ≤ B) (h1 : G ≠ B) (h2 : C ≠ B) (W W' : World) (h : FrO w G C W) (hb : But B W W') : FrO w G C W' :=
 ⟨h.1.trans (hb.to hG h.1.size), (hb.block C (Array.getElem?_eq_some_iff.1 h.2.1).1 h2).trans h.2.1, (hb.block G (Array.getElem?_eq_some_iff.1 h.2.2).1 h1).trans h.2.2⟩
def PO (w : World) (G C B : Nat) (A : Option Addr) (n c : Nat) (l : List UInt8) (s : St) (z : Int) : Nat → World → Prop
 | 0, W => FrO w G C W ∧ W.heap[B]? = some (.cells #[.slice A n c, .bool false, .slice none 0 0, .slice none 0 0, .slice none 0 0, .slice none 0 0, .slice none 0 0, .slice none 0 0] 75 (0, 0)) ∧ Gnd W ∧ Byt.Rd W W.heap.size A n l
 | i + 1, W => z = 0 ∧ ∃ x : Arc, x.is s ∧ OwnA W (B + 1) x ∧ PS (FrO w G C) B (.slice A n c) x s (i + 1) W
theorem PO.fr {w : World} {G C B : Nat} {A : Option Addr} {n c : Nat} {l : List UInt8} {s : St} {z : Int} (i : Nat) (W : World) (h : PO w G C B A n c l s z i W) : FrO w G C W := by
 match i, h with
 | 0, h => exact h.1
 | 1, ⟨_, _, _, _, h⟩ => exact h.fr
 | 2, ⟨_, _, _, _, _, _, _, _, h, _⟩ => exact h.fr
 | 3, ⟨_, _, _, _, _, _, _, _, _, _, _, _, _, _, h, _⟩ => exact h.fr
 | 4, ⟨_, _, _, _, _, _, _, _, _, h, _⟩ => exact h.fr

theorem runO_any (A : Option Addr) (n c : Nat) (l : List UInt8) (w : World) (hnc : n ≤ c) (hn : n < 100000) (s : St) (k0 : Nat) (z0 : Int) (har : ar l = (s, k0, z0)) (G B C : Nat) (hG : w.heap.size ≤ B) (h1 : G ≠ B) (h2 : C ≠ B) (W : World) (hP : PO w G C B A n c l s z0 0 W) :
   Calls Tryz.prog 31 #[.pointer (some ⟨B, 0, none⟩), .slice (some ⟨C, 0, none⟩) 4 4] W (RunP (PO w G C B A n c l s z0 4) fun k z W' => FrO w G C W' ∧ ∃ j : Nat, k = (j : Int) ∧ opn l = (St.zero, j, z)) := by
 have hF := FrO.but (w := w) (G := G) (C := C) hG h1 h2
 refine run4_any B C (PO w G C B A n c l s z0) _ (fun i W h => (PO.fr i W h).2.1) ?_ ?_ ?_ ?_ W hP
 · rintro W ⟨hf, hrow, hg, hr⟩
   have hBs : B < W.heap.size := (Array.getElem?_eq_some_iff.1 hrow).1
   have hll : l.length ≤ 100000 := by rw [hr.1]; omega
   refine (parseS_any B A n c l W hrow hg hr hnc hn).mono ?_
   rintro e w' ⟨x, rfl, hx, ho, hrow', hb⟩
   rw [har] at hx ⊢
   simp only at hx ⊢
   refine ⟨_, _, rfl, ?_⟩
   by_cases hz : z0 = 0
   · exact .inl ⟨hz, hz, x, hx, ho.more (by omega), hrow', ArgX.of_own ho hBs hx (by rw [har, hz]) hll, hF _ _ hf hb⟩
   · exact .inr ⟨hz, hF _ _ hf hb, k0, rfl, opn_bad har hz⟩
 · rintro W ⟨hz, x, hx, ho, h⟩
   subst hz
   exact (sS1 hF hx W h).mono fun _ _ q => q.step (fun hb p => ⟨rfl, x, hx, ho.but hb (by omega), p⟩) fun z hz p => ⟨p.2, 8, rfl, by rw [← p.1]; exact opn_chk har (by rw [p.1]; exact hz)⟩
 · rintro W ⟨hz, x, hx, ho, h⟩
   subst hz
   exact (sS2 hF hx W h).mono fun _ _ q => q.step (fun hb p => ⟨rfl, x, hx, ho.but hb (by omega), p⟩) fun z hz p => ⟨p.2, 8, rfl, by rw [← p.1]; exact opn_chk har (by rw [p.1]; exact hz)⟩
 · rintro W ⟨hz, x, hx, ho, h⟩
   subst hz
   exact (sS3 hF W h).mono fun _ _ q => q.step (fun hb p => ⟨rfl, x, hx, ho.but hb (by omega), p⟩) fun z hz p => ⟨p.2, 8, rfl, by rw [← p.1]; exact opn_chk har (by rw [p.1]; exact hz)⟩

set_option linter.unusedSimpArgs false in
set_option maxRecDepth 100000 in
set_option maxHeartbeats 4000000 in
theorem popen_any (A : Option Addr) (n c : Nat) (l : List UInt8) (w : World) (hgnd : Gnd w) (hr : Byt.Rd w w.heap.size A n l) (hnc : n ≤ c) (hn : n < 100000) :
   Calls Tryz.prog 9 #[.slice A n c] w (OpnP l w) := by
 obtain ⟨s, k0, z0, har⟩ : ∃ s k z, ar l = (s, k, z) := ⟨_, _, _, rfl⟩
 have HAR := hid har
 have Hll : Hid (l.length ≤ 100000) := hid (by rw [hr.1]; omega)
 have HRun := hid fun (G B C : Nat) (hG : w.heap.size ≤ B) (h1 : G ≠ B) (h2 : C ≠ B) (W : World) (hP : PO w G C B A n c l s z0 0 W) => runO_any A n c l w hnc hn s k0 z0 har G B C hG h1 h2 W hP
 have HRd : Hid (∀ W, Below w.heap.size w W → Gnd W ∧ Byt.Rd W W.heap.size A n l) := hid fun W hW => ⟨hgnd.on hW, (hr.below hW).more hW.size⟩
 obtain ⟨g, hg⟩ : ∃ g, w.heap.size = g := ⟨_, rfl⟩
 have hb0 := (Below.refl w.heap.size w).alloc (Nat.le_refl _) (.cells #[.slice none 0 0, .slice none 0 0] 27)
 have hr0 := heap_alloc_new w (.cells #[.slice none 0 0, .slice none 0 0] 27)
 have hs0 := World.size_alloc w (.cells #[.slice none 0 0, .slice none 0 0] 27)
 clear hgnd hr hnc hn har
 go_enter Tryz.func9, Tryz.ntmps9
 go_upto_region 1 with fail
 generalize w.alloc (.cells #[.slice none 0 0, .slice none 0 0] 27) = w0 at *
 have hb1 := (Below.refl w0.heap.size w0).alloc (Nat.le_refl _) (.cells #[.slice A n c, .bool false, .slice none 0 0, .slice none 0 0, .slice none 0 0, .slice none 0 0, .slice none 0 0, .slice none 0 0] 75)
 have hr1 := heap_alloc_new w0 (.cells #[.slice A n c, .bool false, .slice none 0 0, .slice none 0 0, .slice none 0 0, .slice none 0 0, .slice none 0 0, .slice none 0 0] 75)
 have hs1 := World.size_alloc w0 (.cells #[.slice A n c, .bool false, .slice none 0 0, .slice none 0 0, .slice none 0 0, .slice none 0 0, .slice none 0 0, .slice none 0 0] 75)
 go_upto_region 2 with fail
 generalize w0.alloc (.cells #[.slice A n c, .bool false, .slice none 0 0, .slice none 0 0, .slice none 0 0, .slice none 0 0, .slice none 0 0, .slice none 0 0] 75) = w1 at *
 have B1 := hb0.trans (hb1.mono hb0.size)
 have hg1 := (hb1.block w.heap.size (by omega)).trans hr0
 rw [hg] at hr0 hs0 hg1
 rw [hs0] at hr1 hs1
 try rw [hs0]
 clear hb0 hr0 hb1 hs0
 have HG1 := hid hg1
 have HR1 := hid hr1
 clear hg1 hr1
 go_wp2_with fail
 refine (steps_any w1).mono ?_
 rintro e w2 ⟨rfl, hb2⟩
 have hs2 := hb2.size
 have B2 := B1.trans (hb2.mono B1.size)
 have hb3 := (Below.refl w2.heap.size w2).alloc (Nat.le_refl _) (.cells fns 78)
 have hr3 := heap_alloc_new w2 (.cells fns 78)
 have B3 := B2.trans (hb3.mono B2.size)
 have hRd := HRd.out _ B3
 have HRun4 := hid (HRun.out g (g + 1) w2.heap.size (by omega) (by omega) (by omega) (w2.alloc (.cells fns 78)) ⟨⟨B3, hr3, (hb3.block g (by omega)).trans ((hb2.block g (by omega)).trans HG1.out)⟩, (hb3.block (g + 1) (by omega)).trans ((hb2.block (g + 1) (by omega)).trans HR1.out), hRd.1, hRd.2⟩)
 clear HG1 HR1 HRun HRd hRd B1 B2 B3 hb2 hb3 hr3 hs1 hs2
 go_upto_region 3 with (refine wpList_stored rfl rfl _ _ _ rfl _ _ rfl rfl (run_storeAt_new _ 78 _ fns (by kernel_rfl) (by kernel_rfl) (by kernel_rfl)) ?_)
 generalize w2.alloc (.cells fns 78) = w3 at *
 go_wp2_with fail
 refine HRun4.out.mono ?_
 rintro e w4 ⟨k, z, rfl, ⟨rfl, rfl, hP⟩ | ⟨hz, hF, j, rfl, hop⟩⟩
 · obtain ⟨hz0, x, hx, ho, L, E, D, m, d, hst, hL, hck⟩ := hP
   have hF := hst.fr
   have hOp := opn_ok (by rw [HAR.out, hz0]) hck
   have hrB := hst.row
   have c3 := cell_of_row _ (g + 1) 3 _ _ _ hrB
   have c7 := cell_of_row _ (g + 1) 7 _ _ _ hrB
   have hrG := hF.2.2
   have fG : ∀ o, w4.frozen? ⟨g, o, none⟩ = false := fun o => frozen_of_row w4 g o _ _ hrG
   have g0 := cell_of_row _ g 0 _ _ _ hrG
   have g1 := cell_of_row _ g 1 _ _ _ hrG
   have hset : But g w4 (set2 w4 g (.slice x.ap x.an x.ac) (.slice D m d)) := (But.set w4 0 _).trans (But.set _ 1 _)
   have hO5 := ho.but hset (by omega)
   have hO6 := hO5.reads
   have hL6 := ownL_but hL (by omega) hset
   obtain ⟨D', d', eL, hL7, _⟩ := OwnL.reads hL6
   injection eL with eL1 _ eL3
   subst eL1 eL3
   have hsum : sumP s.mems ≤ 100000 := by rw [← hx.2.2.1]; exact hst.arg.tot
   have hmn : m ≤ 140737488355328 := by
     have e1 := hL7.1
     have e2 : (defsP s.mems).length = x.mems.length := by rw [← hx.2.2.1]; simp [defsP]
     have e3 := hst.arg.cnt
     omega
   have hR : OpnP l w (.returned (.tuple #[.agg #[.slice x.ap x.an x.ac, .slice D m d], .int .i64 0, .int .i64 0])) (set2 w4 g (.slice x.ap x.an x.ac) (.slice D m d)) :=
     ⟨⟨x.ap, x.an, x.ac, x.mems, D, m, d, defsP s.mems⟩, by rw [hOp]; rfl, by rw [hOp]; exact ⟨hx.2.2.1, rfl⟩, hO5.mems.more (by omega), fun q hq => (hO5.data q hq).more (by omega), ⟨hO6.2.1, hL7, hO5.small.2.1, hmn, defsP_small hsum⟩, set2_below hF.1 (by omega) _ _⟩
   have HR := hid hR
   clear hR hO5 hO6 hL6 hL7 hset hOp hst hx ho hL hrB hsum hmn hF hck hz0 HRun4
   obtain ⟨xh, mp, mn, mc, xm, ap, an, ac, xms, op, on, oc, xos⟩ := x
   simp only at c3 HR
   go_wp2_with fail
   have hl := load_viewP _ _ _ (set2_row hrG (.slice ap an ac) (.slice D m d)) rfl
   unfold set2 at hl
   exact bodyPost_ret (v := .tuple #[.agg #[.slice ap an ac, .slice D m d], .int .i64 0, .int .i64 0]) (by simp [results, Tryz.results9, asAddr, hl]) rfl HR.out
 · have hzb : (z != 0) = true := by simpa using hz
   have hrG := hF.2.2
   have fG : ∀ o, w4.frozen? ⟨g, o, none⟩ = false := fun o => frozen_of_row w4 g o _ _ hrG
   have g0 := cell_of_row _ g 0 _ _ _ hrG
   have g1 := cell_of_row _ g 1 _ _ _ hrG
   have HR := hid (OpnP.bad hop (set2_below (K := w.heap.size) (B := g) hF.1 (by omega) (.slice none 0 0) (.slice none 0 0)))
   clear hF hop HRun4 hz
   go_wp2_with fail
   have hl := load_viewP _ _ _ (set2_row hrG (.slice none 0 0) (.slice none 0 0)) rfl
   unfold set2 at hl
   exact bodyPost_ret (v := .tuple #[.agg #[.slice none 0 0, .slice none 0 0], .int .i64 (j : Int), .int .i64 z]) (by simp [results, Tryz.results9, asAddr, hl]) rfl HR.out

theorem pc9 : PC9 := ⟨fun A n c l w hg hr hnc _ hn => popen_any A n c l w hg hr hnc hn, pindex_any, fun x K w s h hs => pcheck_any x K w s h hs⟩
end Go.Proofs.YtjobmkodgodloaaGreatDoor.Con
