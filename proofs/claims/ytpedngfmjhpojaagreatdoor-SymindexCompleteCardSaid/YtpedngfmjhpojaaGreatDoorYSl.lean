/-
  symindex: mathematics of the index: what stands where; the offsets ascend.
  SymindexComplete: the complete archive is parsed to the members; it has a map exactly if there are definitions, which is decoded to the index; and the index lists the definitions of each member with the offset at which it was parsed, in order. For every list of members: no condition.
-/
import Derived.Test.YtpedngfmjhpojaaGreatDoorYSe
import Derived.Test.YtpedngfmjhpojaaGreatDoorYSg
import Derived.Test.YtpedngfmjhpojaaGreatDoorYWr
import Derived.Test.YtpedngfmjhpojaaGreatDoorYP5a
import Derived.Test.YtpedngfmjhpojaaGreatDoorCards
import Derived.BigQuiet
namespace Go.Proofs.YtpedngfmjhpojaaGreatDoor.Six
open Go.RowKit Go.Proofs Go.Proofs.YtpedngfmjhpojaaGreatDoor.Byt
open Go.Proofs.YtpedngfmjhpojaaGreatDoor.Arp (Mem)
open Go.Proofs.YtpedngfmjhpojaaGreatDoor.Arw (offL offAt fitL pz)
open Go.Proofs.YtpedngfmjhpojaaGreatDoor.Amp (En)

/-! ### the member at an offset -/
end Go.Proofs.YtpedngfmjhpojaaGreatDoor.Six

namespace Go.Proofs.YtpedngfmjhpojaaGreatDoor.Compl8
open Go.ChangeShapes Go.WideShapes Go.ChangeAt Go.RowKit Go.Proofs Go.Proofs.YtpedngfmjhpojaaGreatDoor.Byt Go.Proofs.YtpedngfmjhpojaaGreatDoor.Six Go.Proofs.YtpedngfmjhpojaaGreatDoor.Frame
open Go.Proofs.YtpedngfmjhpojaaGreatDoor.Lnm (GndP)
open Go.Proofs.YtpedngfmjhpojaaGreatDoor.Arp (Mem RdM)
open Go.Proofs.YtpedngfmjhpojaaGreatDoor.Arw (RdM0 fewM core fitL ints offL base)
open Go.Proofs.YtpedngfmjhpojaaGreatDoor.Amp (En RdE ecells encA szS)

/-- What is parsed of the complete archive. -/
theorem ar_complete {xs : List Mem} (h : Few xs) (h0 : (fitL 0 xs).2 = 0) :
    ∃ t, Arp.ar (cOut xs) = (⟨hmF xs, if hmF xs = true then encA (idx xs) else [], xs.map Arp.Mem.pure, (offF xs).map (fun (n : Nat) => (n : Int)), t⟩, 0, 0) := by
  have e : cOut xs = Arw.arch (hmF xs) (encA (idx xs)) xs := by unfold cOut; rw [if_pos h0]
  have h1 := Arw.ar_arch (hm := hmF xs) (md := encA (idx xs)) (xs := xs) (by rw [idx_size]; have := h.names; omega) ((Arw.fitL_zero 0 xs).1 h0) (by have := h.n; omega) (fun x hx => (h.len x hx).symm)
  rw [idx_size] at h1
  rw [e]
  exact ⟨_, h1⟩

set_option linter.unusedSimpArgs false in
set_option maxRecDepth 100000 in
set_option maxHeartbeats 4000000 in
theorem walk (w : World) (hG : GndP w) (A : Option Addr) (n c : Nat) (xs : List Mem) (h : RdM0 w w.heap.size A n xs) (_hnc : n ≤ c) (_hc : c ≤ maxLen) (hB : ∀ x ∈ xs, MB x) :
    Calls Tryz.prog 4 #[.slice A n c] w fun e w' => e = .returned (.bool true) ∧ Below w.heap.size w w' := by
  have HP := hid pc
  have HB := hid hB
  clear hB
  go_enter Tryz.func4, Tryz.ntmps4
  go_wp2_with fail
  refine (awake8_any HP.out w hG).mono ?_
  rintro e w1 ⟨rfl, B1⟩
  have hK1 := B1.size
  go_wp2_with fail
  refine (Arw.few5_any w.heap.size A n c xs w1 (h.below B1) hK1).mono ?_
  rintro e w2 ⟨rfl, hb2⟩
  have B2 := B1.trans (hb2.mono hK1)
  have g2 := hG.on B2
  clear hb2 B1 hK1
  cases hf : fewM xs
  · go_wp2_with fail
    refine (awake8_any HP.out w2 g2).mono ?_
    rintro e w9 ⟨rfl, hb9⟩
    go_wp2_with fail
    go_ret
    exact ⟨rfl, B2.trans (hb9.mono B2.size)⟩
  · have aL := arg8_of g2 h B2 HB.out hf
    clear hf g2
    go_wp2_with fail
    refine (HP.out.complete _ A n c xs w2 aL).mono ?_
    rintro e w3 hC
    obtain ⟨A3, n3, c3, rfl, hn3, hx1, r3, hc3, hx4, hb3⟩ := hC.reads
    have B3 := B2.trans (hb3.mono B2.size)
    have aL3 := aL.on hb3
    have Hl := hid aL.rd.1
    have hn20 := aL.n20
    have Hn3 := hid hn3
    obtain ⟨z2, hz2⟩ : ∃ z2, (fitL 0 xs).2 = z2 := ⟨_, rfl⟩
    rw [hz2]
    have HZ := hid hz2
    clear hb3 B2 aL hC hz2 hx1 hx4 hn3
    by_cases hz : z2 = 0
    · have hzb : (z2 != 0) = false := by rw [hz]; rfl
      have HOk : Hid ((fitL 0 xs).2 = 0) := hid (HZ.out.trans hz)
      obtain ⟨tt, har⟩ := ar_complete aL3.few HOk.out
      have HAR := hid har
      have hn3b : n3 < 100000 := by rw [Hn3.out]; have := aL3.few.clen; omega
      clear hz har
      go_wp2_with fail
      refine (Arp.parse_any A3 n3 c3 (cOut xs) w3 aL3.g.1 r3 hc3 hn3b).mono ?_
      rintro e w4 ⟨x, rfl, hxis, hxo, hb4⟩
      rw [HAR.out] at hxis ⊢
      obtain ⟨xh, mp, mn, mc, xm, ap, an, ac, xms, op, on, oc, xos⟩ := x
      obtain ⟨hx1, hx2, hx3, hx4⟩ := hxis
      obtain ⟨rMap, rMem, rOff, hmnb, hanb, honb⟩ := hxo.reads
      obtain ⟨_, _, em, _, hmc, hmm⟩ := hxo.map.reads
      simp only at hx1 hx2 hx3 hx4 rMap rMem rOff hmnb hanb honb em hmc hmm
      injection em with em1 _ em3
      subst em1 em3
      have B4 := B3.trans (hb4.mono B3.size)
      have aL4 := aL3.on hb4
      have HSM := hid (Arp.sameMs_pure hx3)
      have HX1 := hid hx1
      have HX2 := hid hx2
      have HX4 := hid hx4
      have hon : on = n := by
        have h1 := rOff.1
        rw [hx4, List.length_map, offF_length, Hl.out] at h1
        omega
      subst hon
      have hrow := heap_alloc_new w4 (.cells #[.bool xh, .slice mp mn mc, .slice ap an ac, .slice op on oc] 44)
      have hbA := (Below.refl w4.heap.size w4).alloc (Nat.le_refl _) (.cells #[.bool xh, .slice mp mn mc, .slice ap an ac, .slice op on oc] 44)
      have hszA := World.size_alloc w4 (.cells #[.bool xh, .slice mp mn mc, .slice ap an ac, .slice op on oc] 44)
      have rMap5 := (rMap.below hbA).more hbA.size
      have rMem5 := (rMem.below hbA).more hbA.size
      have rOff5 := (rOff.below hbA).more hbA.size
      have aL5 := aL4.on hbA
      have B5 := B4.trans (hbA.mono B4.size)
      clear hx1 hx2 hx3 hx4 rMap rMem rOff hxo r3 aL3 aL4 B3 B4 hb4 HAR
      simp only [Arp.Arc.val]
      go_upto_region 7 with fail
      generalize w4.alloc (.cells #[.bool xh, .slice mp mn mc, .slice ap an ac, .slice op on oc] 44) = w5 at *
      clear hbA
      generalize w4.heap.size = g at *
      have d2 := cell_of_row _ g 2 _ _ _ hrow
      have d3 := cell_of_row _ g 3 _ _ _ hrow
      have hrA : RdM w5 w5.heap.size A on xs := aL5.rd.more aL5.hK
      go_wp2_with fail
      refine (Arp.rsamemembers_any w5.heap.size ap A an ac on c xms xs w5 rMem5 hrA (Nat.le_refl _) hanb).mono ?_
      rintro e w6 ⟨rfl, hb6⟩
      rw [HSM.out]
      have hg5 : g < w5.heap.size := by omega
      have hrow6 := (hb6.block g hg5).trans hrow
      have hg6 : g < w6.heap.size := by have := hb6.size; omega
      have e2 := cell_of_row _ g 2 _ _ _ hrow6
      have e3 := cell_of_row _ g 3 _ _ _ hrow6
      have B6 := B5.trans (hb6.mono B5.size)
      have aL6 := aL5.on hb6
      have rMap6 := rMap5.below hb6
      have rOff6 := rOff5.below hb6
      have k56 := hb6.size
      have HB6 := hid B6
      have HA6 := hid aL6
      have HM6 := hid rMap6
      have HO6 := hid rOff6
      have HR6 := hid hrow6
      clear hb6 B5 B6 aL5 aL6 rMap5 rMap6 rMem5 rOff5 rOff6 d2 d3 hrA hrow hrow6 hszA
      go_wp2_with fail
      clear e2 e3
      go_loopw [8, 9] (fun v iv W => ∃ (k j : Nat) (A1 : Option Addr) (c1 : Nat), iv = .int .i64 (k : Int) ∧ k ≤ on ∧ v = .slice A1 j c1 ∧ Hid (j = (namesM (xs.take k)).length) ∧ Cel.Own 51 2 W w6.heap.size (.slice A1 j c1) j (ecells (entsF ((offF xs).take k) (xs.take k))) ∧ Below w6.heap.size w6 W) (fun _ iv _ => on - (intOf iv).toNat)
      case atStart => exact ⟨0, 0, none, 0, rfl, by omega, rfl, hid (by simp [namesM]), Cel.Own.nil _ _ _ _, Below.refl _ _⟩
      case round =>
        obtain ⟨k, j, A1, c1, rfl, hk, rfl, Hj, hO, hb⟩ := hrel
        by_cases hlt : k < on
        · have hkl : k < xs.length := by have := Hl.out; omega
          have hki : (k : Int) < (on : Int) := by omega
          obtain ⟨b, o, rfl, hbK, hcell, hrd⟩ := rdm_cell (HA6.out.rd.below (hb.mono HA6.out.hK)) hkl
          have hx1 := (HA6.out.few.ok _ (List.getElem_mem hkl)).len
          obtain ⟨hx3, hx4⟩ := HA6.out.cap _ (List.getElem_mem hkl)
          have HC := hid (rdefs_any w.heap.size xs[k].ptr xs[k].len xs[k].cap xs[k].data wr hrd (Nat.le_trans HA6.out.hK hb.size) hx3 (by omega))
          have HTn := hid (namesM_take hkl)
          have HTe := hid (entsF_take (offF_length xs) hkl)
          have hol : k < (offF xs).length := by rw [offF_length]; exact hkl
          obtain ⟨bo, oo, rfl, hboK, hoc⟩ := HO6.out.2 k (by rw [HX4.out, List.length_map]; exact hol)
          have hoc2 : w6.cell? ⟨bo, oo + k, none⟩ = some (.int .i64 (((offF xs)[k]'hol : Nat) : Int)) := by rw [hoc]; simp only [HX4.out, List.getElem_map]
          have Hbo : Hid (bo < w6.heap.size) := hid (by omega)
          have HOc := hid hoc2
          have Hjb : Hid (j + (defs xs[k].data).length ≤ 1000) := hid (by
            have h1 := HA6.out.few.count
            have h2 : namesM xs = namesM (xs.take (k + 1)) ++ namesM (xs.drop (k + 1)) := by rw [← namesM_append, List.take_append_drop]
            rw [h2, List.length_append, HTn.out, List.length_append, ← Hj.out] at h1
            omega)
          have Hlen : Hid ((namesM (xs.take (k + 1))).length = j + (defs xs[k].data).length) := hid (by rw [HTn.out, List.length_append, Hj.out])
          clear hoc hoc2 hrd hx1 hx3 hx4 HTn
          generalize (offF xs)[k]'hol = opv at *
          generalize xs[k] = x at *
          obtain ⟨x0, x1, x2, x3', x4', x5, x6, x7, x8⟩ := x
          simp only at *
          go_wp2_with fail
          refine HC.out.mono ?_
          rintro e w7 hD
          obtain ⟨A7, n7, c7, rfl, hn7, o7, _, _, _, hb7⟩ := hD.reads
          have Hn7 := hid hn7
          rw [← hn7] at Hjb Hlen
          have hO7 := hO.below hb7
          have hb07 := hb.trans (hb7.mono hb.size)
          have hs7 := hb.size
          have hjq := Hjb.out
          obtain ⟨w7k, hw7k⟩ : ∃ w7k, wr.heap.size = w7k := ⟨_, rfl⟩
          rw [hw7k] at o7
          generalize defs x8 = ds at *
          clear hD hb7 hn7 HC hcell hO hb hw7k
          go_wp2_with fail
          go_loopw [8, 11] (fun v iv W => ∃ (q : Nat) (A4 : Option Addr) (c4 : Nat), iv = .int .i64 (q : Int) ∧ q ≤ n7 ∧ v = .slice A4 (j + q) c4 ∧ Cel.Own 51 2 W w6.heap.size (.slice A4 (j + q) c4) (j + q) (ecells (entsF ((offF xs).take k) (xs.take k) ++ (ds.take q).map fun s => (⟨s, (opv : Int)⟩ : En))) ∧ Sls.Own W w7k (.slice A7 n7 c7) n7 ds ∧ Below w6.heap.size w6 W) (fun _ iv _ => n7 - (intOf iv).toNat)
          case atStart => exact ⟨0, A1, c1, rfl, by omega, rfl, by simpa using hO7, o7, hb07⟩
          case round =>
            obtain ⟨q, A4, c4, rfl, hq, rfl, hE, hS, hb⟩ := hrel
            by_cases hqt : q < n7
            · have hql : q < ds.length := by have := Hn7.out; omega
              have hqi : (q : Int) < (n7 : Int) := by omega
              have hbd : Below wr.heap.size wr wr.drew := (Below.refl _ _).drew
              have hE1 := hE.below hbd
              have hS1' := hS.below hbd
              have hb1 := hb.trans (hbd.mono hb.size)
              obtain ⟨A6', c6', e6, r6, _, _⟩ := hS1'.reads
              injection e6 with e61 _ e63
              subst e61 e63
              obtain ⟨b6, o6, rfl, _, hc6⟩ := r6.2 q hql
              have HTs : Hid (ecells (entsF ((offF xs).take k) (xs.take k) ++ (ds.take (q + 1)).map fun s => (⟨s, (opv : Int)⟩ : En)) = ecells (entsF ((offF xs).take k) (xs.take k) ++ (ds.take q).map fun s => (⟨s, (opv : Int)⟩ : En)) ++ [.string ds[q], .int .i64 (opv : Int)]) := hid (by
                rw [List.take_succ_eq_append_getElem hql, List.map_append, ← List.append_assoc, Amp.ecells_append]
                rfl)
              have HC6 := hid fun (W : World) (h : Sls.Own W w7k (.slice (some ⟨b6, o6, none⟩) n7 c7) n7 ds) => (show W.cell? ⟨b6, o6 + q, none⟩ = some (.string ds[q]) from by
                obtain ⟨A', c', e', r', _, _⟩ := h.reads
                injection e' with e1 _ e3
                subst e1 e3
                obtain ⟨b', o', e'', _, hc'⟩ := r'.2 q hql
                cases e''
                exact hc')
              generalize ds[q] = s at *
              clear hE hS hb hbd r6
              go_wp2_with fail
              have hS1 : (fun W' => W'.cell? ⟨g, 3, none⟩ = some (.slice (some ⟨bo, oo, none⟩) on oc) ∧ W'.cell? ⟨b6, o6 + q, none⟩ = some (.string s) ∧ W'.cell? ⟨bo, oo + k, none⟩ = some (.int .i64 (opv : Int))) wr.drew := ⟨cell_of_row _ g 3 _ _ _ ((hb1.block g hg6).trans HR6.out), hc6, (hb1.cell (p := ⟨bo, oo + k, none⟩) Hbo.out).trans HOc.out⟩
              refine Ord.Till.begin (fun W' => W'.cell? ⟨g, 3, none⟩ = some (.slice (some ⟨bo, oo, none⟩) on oc) ∧ W'.cell? ⟨b6, o6 + q, none⟩ = some (.string s) ∧ W'.cell? ⟨bo, oo + k, none⟩ = some (.int .i64 (opv : Int))) 60 (by kernel_rfl) ?_
              generalize wr.drew = wd at *
              clear hc6
              refine Ord.Till.take' 0 (some 73) (oi := _) (x := ?_) rfl rfl (by kernel_rfl) (by kernel_rfl) (by kernel_rfl) (by kernel_rfl) (fun _ _ _ h => h) (by kernel_rfl) ?_ hS1 ?_
              rotate_left 1
              · intro v hv; obtain ⟨z0, z1, z2⟩ := hv; go_simp; first | done | with_reducible rfl
              try simp only [List.getElem_toArray, List.getElem_cons_zero, List.getElem_cons_succ, Act.put, List.setIfInBounds_toArray, List.set_cons_zero, List.set_cons_succ]
              refine Ord.Till.take' 1 (some 74) (oi := _) (x := ?_) rfl rfl (by kernel_rfl) (by kernel_rfl) (by kernel_rfl) (by kernel_rfl) (fun _ _ _ h => h) (by kernel_rfl) ?_ hS1 ?_
              rotate_left 1
              · intro v hv; obtain ⟨z0, z1, z2⟩ := hv; go_simp; first | done | with_reducible rfl
              try simp only [List.getElem_toArray, List.getElem_cons_zero, List.getElem_cons_succ, Act.put, List.setIfInBounds_toArray, List.set_cons_zero, List.set_cons_succ]
              refine Ord.Till.take' 2 (some 75) (oi := _) (x := ?_) rfl rfl (by kernel_rfl) (by kernel_rfl) (by kernel_rfl) (by kernel_rfl) (fun _ _ _ h => h) (by kernel_rfl) ?_ hS1 ?_
              rotate_left 1
              · intro v hv; obtain ⟨z0, z1, z2⟩ := hv; go_simp; first | done | with_reducible rfl
              try simp only [List.getElem_toArray, List.getElem_cons_zero, List.getElem_cons_succ, Act.put, List.setIfInBounds_toArray, List.set_cons_zero, List.set_cons_succ]
              refine Ord.Till.take' 3 (some 76) (oi := _) (x := ?_) rfl rfl (by kernel_rfl) (by kernel_rfl) (by kernel_rfl) (by kernel_rfl) (fun _ _ _ h => h) (by kernel_rfl) ?_ hS1 ?_
              rotate_left 1
              · intro v hv; obtain ⟨z0, z1, z2⟩ := hv; go_simp; first | done | with_reducible rfl
              try simp only [List.getElem_toArray, List.getElem_cons_zero, List.getElem_cons_succ, Act.put, List.setIfInBounds_toArray, List.set_cons_zero, List.set_cons_succ]
              refine Ord.Till.take' 4 (some 77) (oi := _) (x := ?_) rfl rfl (by kernel_rfl) (by kernel_rfl) (by kernel_rfl) (by kernel_rfl) (fun _ _ _ h => h) (by kernel_rfl) ?_ hS1 ?_
              rotate_left 1
              · intro v hv; obtain ⟨z0, z1, z2⟩ := hv; go_simp; first | done | with_reducible rfl
              try simp only [List.getElem_toArray, List.getElem_cons_zero, List.getElem_cons_succ, Act.put, List.setIfInBounds_toArray, List.set_cons_zero, List.set_cons_succ]
              refine Ord.Till.take' 5 (some 78) (oi := _) (x := ?_) rfl rfl (by kernel_rfl) (by kernel_rfl) (by kernel_rfl) (by kernel_rfl) (fun _ _ _ h => h) (by kernel_rfl) ?_ hS1 ?_
              rotate_left 1
              · intro v hv; obtain ⟨z0, z1, z2⟩ := hv; go_simp; first | done | with_reducible rfl
              try simp only [List.getElem_toArray, List.getElem_cons_zero, List.getElem_cons_succ, Act.put, List.setIfInBounds_toArray, List.set_cons_zero, List.set_cons_succ]
              refine Ord.Till.take' 6 (some 79) (oi := _) (x := ?_) rfl rfl (by kernel_rfl) (by kernel_rfl) (by kernel_rfl) (by kernel_rfl) (fun _ _ _ h => h) (by kernel_rfl) ?_ hS1 ?_
              rotate_left 1
              · intro v hv; obtain ⟨z0, z1, z2⟩ := hv; go_simp; first | done | with_reducible rfl
              try simp only [List.getElem_toArray, List.getElem_cons_zero, List.getElem_cons_succ, Act.put, List.setIfInBounds_toArray, List.set_cons_zero, List.set_cons_succ]
              refine Ord.Till.take' 7 (some 80) (oi := _) (x := ?_) rfl rfl (by kernel_rfl) (by kernel_rfl) (by kernel_rfl) (by kernel_rfl) (fun _ _ _ h => h) (by kernel_rfl) ?_ hS1 ?_
              rotate_left 1
              · intro v hv; obtain ⟨z0, z1, z2⟩ := hv; go_simp; first | done | with_reducible rfl
              try simp only [List.getElem_toArray, List.getElem_cons_zero, List.getElem_cons_succ, Act.put, List.setIfInBounds_toArray, List.set_cons_zero, List.set_cons_succ]
              refine Ord.Till.take' 8 (some 81) (oi := _) (x := ?_) rfl rfl (by kernel_rfl) (by kernel_rfl) (by kernel_rfl) (by kernel_rfl) (fun _ _ _ h => h) (by kernel_rfl) ?_ hS1 ?_
              rotate_left 1
              · intro v hv; obtain ⟨z0, z1, z2⟩ := hv; go_simp; first | done | with_reducible rfl
              try simp only [List.getElem_toArray, List.getElem_cons_zero, List.getElem_cons_succ, Act.put, List.setIfInBounds_toArray, List.set_cons_zero, List.set_cons_succ]
              refine Ord.Till.take' 9 (some 82) (oi := _) (x := ?_) rfl rfl (by kernel_rfl) (by kernel_rfl) (by kernel_rfl) (by kernel_rfl) (fun _ _ _ h => h) (by kernel_rfl) ?_ hS1 ?_
              rotate_left 1
              · intro v hv; obtain ⟨z0, z1, z2⟩ := hv; go_simp; first | done | with_reducible rfl
              try simp only [List.getElem_toArray, List.getElem_cons_zero, List.getElem_cons_succ, Act.put, List.setIfInBounds_toArray, List.set_cons_zero, List.set_cons_succ]
              refine Ord.Till.take' 10 (some 83) (oi := _) (x := ?_) rfl rfl (by kernel_rfl) (by kernel_rfl) (by kernel_rfl) (by kernel_rfl) (fun _ _ _ h => h) (by kernel_rfl) ?_ hS1 ?_
              rotate_left 1
              · intro v hv; obtain ⟨z0, z1, z2⟩ := hv; go_simp; first | done | with_reducible rfl
              try simp only [List.getElem_toArray, List.getElem_cons_zero, List.getElem_cons_succ, Act.put, List.setIfInBounds_toArray, List.set_cons_zero, List.set_cons_succ]
              refine Ord.Till.step 11 (by kernel_rfl) rfl (fun C hC => ?_)
              go_simp
              have hbA := (Below.refl wd.heap.size wd).alloc (Nat.le_refl _) (.cells #[.string s, .int .i64 (opv : Int)] 51)
              have hnew := heap_alloc_new wd (.cells #[.string s, .int .i64 (opv : Int)] 51)
              have hE2 := hE1.below hbA
              have hS2' := hS1'.below hbA
              have hb2 := hb1.trans (hbA.mono hb1.size)
              have hS2 : (fun W' => W'.cell? ⟨g, 3, none⟩ = some (.slice (some ⟨bo, oo, none⟩) on oc) ∧ W'.cell? ⟨b6, o6 + q, none⟩ = some (.string s) ∧ W'.cell? ⟨bo, oo + k, none⟩ = some (.int .i64 (opv : Int))) (wd.alloc (.cells #[.string s, .int .i64 (opv : Int)] 51)) := ⟨cell_of_row _ g 3 _ _ _ ((hb2.block g hg6).trans HR6.out), HC6.out _ hS2', (hb2.cell (p := ⟨bo, oo + k, none⟩) Hbo.out).trans HOc.out⟩
              refine hC.out _ _ (fun _ => hS2) ?_
              clear hC C hS1 hE1 hS1' hb1 hbA
              try simp only [List.getElem_toArray, List.getElem_cons_zero, List.getElem_cons_succ, Act.put, List.setIfInBounds_toArray, List.set_cons_zero, List.set_cons_succ]
              refine Ord.Till.step 12 (by kernel_rfl) rfl (fun C hC => ?_)
              refine Cel.step_app Amp.kE _ w6.heap.size (.slice A4 (j + q) c4) (j + q) _ hE2 hb2.size ⟨wd.heap.size, 0, none⟩ 1 1 [.string s, .int .i64 (opv : Int)] rfl (by simp [Value.oneCell']) (World.news_of_block (cs := #[.string s, .int .i64 (opv : Int)]) (t := 51) (fr := (0, 0)) hnew) (by omega) (by omega) (by rfl) _ _ (by rfl) (by rfl) (by rfl) ?_
              intro v4 w8 ho8 hb8 hot8 _
              obtain ⟨A8, c8, rfl, _⟩ := ho8.reads
              have hb3 := hb2.trans hb8
              have hS3' := sown_oth hS2' hot8 str_ent
              have hS3 : (fun W' => W'.cell? ⟨g, 3, none⟩ = some (.slice (some ⟨bo, oo, none⟩) on oc) ∧ W'.cell? ⟨b6, o6 + q, none⟩ = some (.string s) ∧ W'.cell? ⟨bo, oo + k, none⟩ = some (.int .i64 (opv : Int))) w8 := ⟨cell_of_row _ g 3 _ _ _ ((hb3.block g hg6).trans HR6.out), HC6.out _ hS3', (hb3.cell (p := ⟨bo, oo + k, none⟩) Hbo.out).trans HOc.out⟩
              refine hC.out _ _ (fun _ => hS3) ?_
              clear hC C hS2 hE2 hS2' hb2 hot8 hnew hb8
              try simp only [List.getElem_toArray, List.getElem_cons_zero, List.getElem_cons_succ, Act.put, List.setIfInBounds_toArray, List.set_cons_zero, List.set_cons_succ]
              refine Ord.Till.step 13 (by kernel_rfl) rfl (fun C hC => ?_)
              go_simp
              refine hC.out _ _ (fun _ => hS3) ?_
              clear hC C
              try simp only [List.getElem_toArray, List.getElem_cons_zero, List.getElem_cons_succ, Act.put, List.setIfInBounds_toArray, List.set_cons_zero, List.set_cons_succ]
              refine Ord.Till.done (by kernel_rfl) ?_ _
              clear hS3
              have ho8' : Cel.Own 51 2 w8 w6.heap.size (.slice A8 (j + q + 1) c8) (j + q + 1) (ecells (entsF ((offF xs).take k) (xs.take k) ++ (ds.take (q + 1)).map fun s => (⟨s, (opv : Int)⟩ : En))) := by rw [HTs.out]; exact ho8
              clear ho8 HC6
              go_wp2_with fail
              go_roundw
              · exact ⟨q + 1, A8, c8, by go_num, by omega, rfl, ho8', hS3', hb3⟩
              · simp [intOf]; omega
            · obtain rfl : q = n7 := by omega
              have hqi : ¬ (q : Int) < (q : Int) := by omega
              have e1 : ds.take q = ds := List.take_of_length_le (by have := Hn7.out; omega)
              rw [e1, ← HTe.out] at hE
              clear e1 hS
              go_wp2_with fail
              go_roundw
              · exact ⟨k + 1, j + q, A4, c4, by go_num, by omega, rfl, hid Hlen.out.symm, hE, hb⟩
              · simp [intOf]; omega
        · obtain rfl : k = on := by omega
          have hki : ¬ (k : Int) < (k : Int) := by omega
          have hT : xs.take k = xs := List.take_of_length_le (by have := Hl.out; omega)
          have hT2 : (offF xs).take k = offF xs := List.take_of_length_le (by rw [offF_length]; have := Hl.out; omega)
          rw [hT, hT2] at hO
          rw [hT] at Hj
          have rE : RdE wr wr.heap.size A1 j (idx xs) := Amp.rde_own hO
          have HRE := hid rE
          have B7 := HB6.out.trans (hb.mono HB6.out.size)
          have hrow7 := (hb.block g hg6).trans HR6.out
          obtain ⟨bm, hbm⟩ : ∃ bm, decide (0 < j) = bm := ⟨_, rfl⟩
          have Hbm : Hid (bm = hmF xs) := hid (by rw [← hbm]; unfold hmF; rw [← Hj.out])
          have hxb : xh = bm := by rw [HX1.out, Hbm.out]
          have hjb : j ≤ 1000 := by rw [Hj.out]; exact HA6.out.few.count
          subst hxb
          have rM7 := (HM6.out.below (hb.mono k56)).more k56
          have e0 := cell_of_row _ g 0 _ _ _ hrow7
          have e1 := cell_of_row _ g 1 _ _ _ hrow7
          have HM7 := hid rM7
          have hKw := hb.size
          clear hT hT2 hO rE hb hrow7 rM7
          cases xh
          · go_wp2_with fail
            go_ret
            exact ⟨rfl, B7⟩
          · have ex : xm = encA (idx xs) := by rw [HX2.out, ← Hbm.out]; rfl
            have hde := Amp.dec_enc HA6.out.few.fit (by have := HA6.out.few.idx_len; omega)
            have hmn : mn ≤ 1000000 := by
              rw [← HM7.out.1, ex, idx_size]
              have := HA6.out.few.names
              omega
            have HDe := hid hde
            have HM8 := hid (show Byt.Rd wr w6.heap.size mp mn (encA (idx xs)) by rw [← ex]; exact HM7.out)
            clear ex hde HM7
            go_wp2_with fail
            refine (Amp.decP_any w6.heap.size mp mn mc (encA (idx xs)) wr HM8.out hKw hmc hmm hmn).mono ?_
            rintro e w8 hD
            obtain ⟨A8, n8, c8, rfl, r8, hn8, _, _, hb8⟩ := hD.reads
            rw [HDe.out.1] at r8 hn8
            rw [HDe.out.2]
            have hn8b : n8 ≤ 140737488355328 := by rw [hn8]; have := HA6.out.few.idx_len; omega
            have r18 := (HRE.out.below hb8).more hb8.size
            have B8 := B7.trans (hb8.mono B7.size)
            clear hD hn8 hb8 B7 e0 e1
            go_wp2_with fail
            refine (Amp.rsameE_any w8.heap.size A8 A1 n8 c8 j c1 _ _ w8 r8 r18 (Nat.le_refl _) hn8b).mono ?_
            rintro e w9 ⟨rfl, hb9⟩
            rw [Amp.sameE_eq.2 rfl]
            go_wp2_with fail
            go_ret
            exact ⟨rfl, B8.trans (hb9.mono B8.size)⟩
    · have hzb : (z2 != 0) = true := by simpa using hz
      have e0 : cOut xs = [] := by unfold cOut; rw [if_neg (by rw [HZ.out]; exact hz)]
      have h3 := Hn3.out
      rw [e0] at h3
      obtain rfl : n3 = 0 := h3
      clear hz e0
      go_wp2_with fail
      go_ret
      exact ⟨rfl, B3⟩

set_option maxRecDepth 100000 in
theorem held : Rows.SymindexCompleteSaid :=
  OpenClaim.holds_of_wide 4 Tryz.f4 rfl rfl rfl rfl rfl rfl rfl ⟨rfl, rfl, rfl, rfl, rfl⟩ rfl rfl rfl rfl rfl (by kernel_rfl) Tryz.func4 (by kernel_rfl)
    (of_decide_eq_true (by kernel_rfl)) (by unfold Func.isWrapper; first | (rw [if_pos (by decide +kernel)]; kernel_rfl) | (rw [if_neg (by decide +kernel)]; exact ⟨rfl, rfl⟩))
    (fun os started H enc _ => liftedG (started := started) (s := Rows.symindexCompleteSpec) (L := Rows.symindexCompleteRow.laid) rfl
      (fun ds h => by match ds, h with | [_], _ => rfl) (by kernel_rfl)
      (by kernel_rfl) (by kernel_rfl) Tryz.func4
      (ChangeSpec.witness_shaped (enc := enc) (C := Tryz.checked) (os := os) (X := fun w _ => laidMetH Tryz.prog Rows.symindexCompleteRow.laid w) false (World.laidAll Tryz.prog os Rows.symindexCompleteRow.laid) #[.slice none 0 0] 8 (World.laidAll_os _ _ _)
        (World.shaped_of_ZipB (by kernel_rfl) (by kernel_rfl)) (by kernel_rfl) (by kernel_rfl) (by kernel_rfl)
        (by rw [MakeChecks.laidMetH_plain _ _ _ (by kernel_rfl)]; exact laidMet_laidAll _ (by kernel_rfl) (by kernel_rfl)))
      gndp5_of (fun W base args ds p hG h => by
        obtain ⟨hval, hA, _⟩ := h
        rw [show Tryz.f4.params = #[22] from by kernel_rfl] at hA hval
        obtain ⟨v0, vs0, d0, ds0, p0, q0, hargs, rfl, rfl, k0, r0⟩ := trodAll_cons hA
        obtain ⟨rfl, rfl, rfl⟩ := trodAll_nil r0
        obtain rfl : args = #[v0] := by cases args; simp_all
        obtain ⟨A0, n0, c0, l0, rfl, h0, m0, g0, s0⟩ := open_mems (hval 0 _ v0 rfl rfl) k0
        exact walk W hG A0 n0 c0 l0 h0 m0 g0 s0))
theorem proved : Rows.SymindexCompleteCardSaid :=
  Claim7.holds_tied_plain_at .later [] [.data, .data, .data, .data, .pinned] true (true, "ae1ecf1e86fc5b02924e1b3ccece8f708fc2caf9649942e1bcdfec833af225aa") true held (fun _ h => by cases h) (by kernel_rfl) (fun _ h => by cases h) symindexComplete_row_tie rfl ⟨rfl, rfl⟩ (by kernel_rfl) rfl
    (fun f fn hf hfn => by
      obtain rfl : f = 4 := Option.some.inj ((show Tryz.prog.funcNamed "arlink/arlinklaw08.SymindexComplete" = some 4 by kernel_rfl).symm.trans hf) |>.symm
      obtain rfl : fn = Tryz.f4 := (Option.some.inj (Tryz.func4.symm.trans hfn)).symm
      exact ⟨by kernel_rfl, fun j t ht => by
        rw [Tryz.params4] at ht
        have hm : t ∈ [22] := by simpa using Array.mem_of_getElem? ht
        have hall : ([22].all fun u => !Tryz.prog.wantsStandIn u) = true := by kernel_rfl
        exact (show Tryz.prog.wantsStandIn t = false by simpa using List.all_eq_true.1 hall t hm)⟩)
    (by kernel_rfl)
#print axioms proved
end Go.Proofs.YtpedngfmjhpojaaGreatDoor.Compl8
