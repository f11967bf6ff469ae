/-
  consist: the actual index, whether an archive is consistent, what opening gives (mathematics).
  consist's reference: the actual index.
  consist's reference: whether an archive is consistent; comparing views.
  consist's reference: views, compared.
-/
import Derived.Test.YtjobmkodgodloaaGreatDoorYSa
import Derived.Test.YtjobmkodgodloaaGreatDoorYWr
import Derived.Test.YtjobmkodgodloaaGreatDoorYWy
import Derived.Test.YtjobmkodgodloaaGreatDoorYAa
import Derived.BigQuiet
import Derived.Test.YtjobmkodgodloaaGreatDoorYP5a
import Derived.Test.YtjobmkodgodloaaGreatDoorYSg
import Derived.Test.YtjobmkodgodloaaGreatDoorYAf
import Derived.Deep.RegionHeld3
namespace Go.Proofs.YtjobmkodgodloaaGreatDoor.Con
open Go.RowKit Go.Proofs Go.Proofs.YtjobmkodgodloaaGreatDoor.Byt
open Go.Proofs.YtjobmkodgodloaaGreatDoor.Arp (Mem St Pm ar go stepE stepS perr plen pdata go_nil go_bad go_on stepE_ok perr_ok pdata_length plen_pos ar_1 ar_2 ar_go)
open Go.Proofs.YtjobmkodgodloaaGreatDoor.Six (defs szD szD_defs szD_len szD_append defs_ok entsF Few idx offF offF_length namesM hmF idx_size idx_length)
open Go.Proofs.YtjobmkodgodloaaGreatDoor.Amp (En sameE sameE_eq decA decE decZ encA fitA fitA_iff enOk_iff nmOk)

def aents : List Int → List Pm → List En
 | o :: os, x :: xs => ((defs x.data).map fun s => (⟨s, o⟩ : En)) ++ aents os xs
 | _, _ => []
def namesP (xs : List Pm) : List ByteArray := xs.flatMap fun x => defs x.data
theorem namesP_cons (x : Pm) (r : List Pm) : namesP (x :: r) = defs x.data ++ namesP r := by simp [namesP]
theorem namesP_append (a b : List Pm) : namesP (a ++ b) = namesP a ++ namesP b := by simp [namesP]
theorem namesP_take {xs : List Pm} {k : Nat} (hk : k < xs.length) : namesP (xs.take (k + 1)) = namesP (xs.take k) ++ defs xs[k].data := by
 rw [List.take_succ_eq_append_getElem hk, namesP_append, namesP_cons]
 simp [namesP]
theorem aents_append : ∀ (os ps : List Int) (xs ys : List Pm), os.length = xs.length → aents (os ++ ps) (xs ++ ys) = aents os xs ++ aents ps ys
 | [], _, [], _, _ => rfl
 | o :: os, ps, x :: xs, ys, h => by
   rw [List.length_cons, List.length_cons] at h
   rw [List.cons_append, List.cons_append, aents, aents, aents_append os ps xs ys (by omega), List.append_assoc]
 | [], _, _ :: _, _, h => by simp at h
 | _ :: _, _, [], _, h => by simp at h
theorem aents_take {os : List Int} {xs : List Pm} (h : os.length = xs.length) {k : Nat} (hk : k < xs.length) :
   aents (os.take (k + 1)) (xs.take (k + 1)) = aents (os.take k) (xs.take k) ++ (defs xs[k].data).map fun s => (⟨s, os[k]'(by omega)⟩ : En) := by
 rw [List.take_succ_eq_append_getElem hk, List.take_succ_eq_append_getElem (show k < os.length by omega), aents_append _ _ _ _ (by simp; omega)]
 simp [aents]
theorem aents_ents : ∀ (os : List Nat) (xs : List Mem), aents (os.map fun (n : Nat) => (n : Int)) (xs.map Mem.pure) = entsF os xs
 | [], xs => by simp [aents, entsF]
 | o :: os, [] => by simp [aents, entsF]
 | o :: os, x :: xs => by rw [List.map_cons, List.map_cons, aents, aents_ents os xs, entsF]; rfl

def sumP (xs : List Pm) : Nat := (xs.map fun x => x.data.length).sum
theorem sumP_append (a b : List Pm) : sumP (a ++ b) = sumP a + sumP b := by simp [sumP]
theorem sumP_mem {xs : List Pm} {x : Pm} (h : x ∈ xs) : x.data.length ≤ sumP xs := by
 induction xs with
 | nil => cases h
 | cons y r ih =>
   have e : sumP (y :: r) = y.data.length + sumP r := by simp [sumP]
   rcases List.mem_cons.1 h with rfl | h
   · omega
   · have := ih h; omega
theorem namesP_len : ∀ xs : List Pm, (namesP xs).length * 5 ≤ sumP xs
 | [] => by simp [namesP]
 | x :: r => by
   have h1 := namesP_len r
   have h2 := szD_len (defs x.data)
   have h3 := szD_defs x.data
   have e : sumP (x :: r) = x.data.length + sumP r := by simp [sumP]
   rw [namesP_cons, List.length_append]
   omega
theorem step_sum {s : St} {a : Nat} {l : List UInt8} (h : stepE s l = 0) : sumP (stepS s a l).mems + (l.drop (plen l)).length ≤ sumP s.mems + l.length := by
 have h1 := stepE_ok h
 have h2 := (perr_ok h1).2.1
 have h3 := pdata_length h1
 have h4 : Arp.psz l ≤ plen l := by unfold plen Arp.pad; omega
 rw [List.length_drop]
 unfold stepS
 split
 · show sumP s.mems + _ ≤ _
   omega
 · split
   · show sumP s.mems + _ ≤ _
     omega
   · show sumP (s.mems ++ [_]) + _ ≤ _
     rw [sumP_append]
     simp only [sumP, List.map_cons, List.map_nil, List.sum_cons, List.sum_nil]
     omega
theorem go_sum : ∀ (k : Nat) (s : St) (a : Nat) (l : List UInt8) (t : St) (b : Nat), l.length ≤ k → go s a l = (t, b, 0) → sumP t.mems ≤ sumP s.mems + l.length := by
 intro k
 induction k with
 | zero =>
   intro s a l t b hk h
   have : l = [] := List.eq_nil_of_length_eq_zero (by omega)
   subst this
   rw [go_nil] at h
   injection h with h _
   subst h
   omega
 | succ k ih =>
   intro s a l t b hk h
   by_cases h0 : l = []
   · subst h0
     rw [go_nil] at h
     injection h with h _
     subst h
     omega
   · by_cases he : stepE s l = 0
     · rw [go_on h0 he] at h
       have h1 := step_sum (a := a) he
       have h2 := plen_pos l
       have h3 : 0 < l.length := List.length_pos_iff.2 h0
       have := ih _ _ _ t b (by rw [List.length_drop]; omega) h
       omega
     · rw [go_bad h0 he] at h
       injection h with _ h
       injection h with _ h
       exact absurd h he
theorem ar_sum {l : List UInt8} {t : St} {k : Nat} (h : ar l = (t, k, 0)) : sumP t.mems ≤ l.length := by
 by_cases h8 : l.length < 8
 · rw [ar_2 h8] at h
   injection h with _ h
   injection h with _ h
   exact absurd h (by decide)
 · cases hi : Arp.isAr l
   · rw [ar_1 (by omega) hi] at h
     injection h with _ h
     injection h with _ h
     exact absurd h (by decide)
   · rw [ar_go hi] at h
     have := go_sum _ _ _ _ _ _ (Nat.le_refl _) h
     rw [List.length_drop] at this
     have e : sumP Arp.St.zero.mems = 0 := rfl
     omega
theorem go_map_len : ∀ (k : Nat) (s : St) (a : Nat) (l : List UInt8) (t : St) (b : Nat) (z : Nat), l.length ≤ k → l.length ≤ z → s.map.length ≤ z → go s a l = (t, b, 0) → t.map.length ≤ z := by
 intro k
 induction k with
 | zero =>
   intro s a l t b z hk hz hs h
   have : l = [] := List.eq_nil_of_length_eq_zero (by omega)
   subst this
   rw [go_nil] at h
   injection h with h _
   subst h
   exact hs
 | succ k ih =>
   intro s a l t b z hk hz hs h
   by_cases h0 : l = []
   · subst h0
     rw [go_nil] at h
     injection h with h _
     subst h
     exact hs
   · by_cases he : stepE s l = 0
     · rw [go_on h0 he] at h
       have h2 := plen_pos l
       have h3 : 0 < l.length := List.length_pos_iff.2 h0
       have h4 := pdata_length (stepE_ok he)
       have h5 := (perr_ok (stepE_ok he)).2.1
       refine ih _ _ _ t b z (by rw [List.length_drop]; omega) (by rw [List.length_drop]; omega) ?_ h
       unfold stepS
       split
       · show (pdata l).length ≤ z
         have h6 : Arp.psz l ≤ plen l := by unfold plen Arp.pad; omega
         omega
       · split
         · exact hs
         · exact hs
     · rw [go_bad h0 he] at h
       injection h with _ h
       injection h with _ h
       exact absurd h he
theorem ar_map_len {l : List UInt8} {t : St} {k : Nat} (h : ar l = (t, k, 0)) : t.map.length ≤ l.length := by
 by_cases h8 : l.length < 8
 · rw [ar_2 h8] at h
   injection h with _ h
   injection h with _ h
   exact absurd h (by decide)
 · cases hi : Arp.isAr l
   · rw [ar_1 (by omega) hi] at h
     injection h with _ h
     injection h with _ h
     exact absurd h (by decide)
   · rw [ar_go hi] at h
     exact go_map_len _ _ _ _ _ _ _ (Nat.le_refl _) (by rw [List.length_drop]; omega) (by show (0 : Nat) ≤ _; omega) h

def aidx (s : St) : List En := aents s.offs s.mems
def chk (s : St) : Int := if s.hasMap = true then (if decZ s.map = 0 then (if sameE (decE s.map) (aidx s) = true then 0 else 16) else 8) else if (aidx s).length = 0 then 0 else 16
def opn (l : List UInt8) : St × Nat × Int := if (ar l).2.2 ≠ 0 then (St.zero, (ar l).2.1, (ar l).2.2) else if chk (ar l).1 ≠ 0 then (St.zero, 8, chk (ar l).1) else ((ar l).1, 0, 0)
def defsP (xs : List Pm) : List (List ByteArray) := xs.map fun x => defs x.data
theorem opn_bad {l : List UInt8} {s : St} {k : Nat} {z : Int} (h : ar l = (s, k, z)) (hz : z ≠ 0) : opn l = (St.zero, k, z) := by unfold opn; rw [h, if_pos hz]
theorem opn_chk {l : List UInt8} {s : St} {k : Nat} (h : ar l = (s, k, 0)) (hz : chk s ≠ 0) : opn l = (St.zero, 8, chk s) := by unfold opn; rw [h, if_neg (by simp), if_pos hz]
theorem opn_ok {l : List UInt8} {s : St} {k : Nat} (h : ar l = (s, k, 0)) (hz : chk s = 0) : opn l = (s, 0, 0) := by unfold opn; rw [h, if_neg (by simp), if_neg (by simp [hz])]
theorem opn_zero {l : List UInt8} {s : St} {k : Nat} (h : opn l = (s, k, 0)) : ar l = (s, (ar l).2.1, 0) ∧ chk s = 0 ∧ k = 0 := by
 unfold opn at h
 split at h
 · rename_i h1
   injection h with _ h
   injection h with _ h
   exact absurd h h1
 · rename_i h1
   have h1' : (ar l).2.2 = 0 := by simpa using h1
   split at h
   · rename_i h2
     injection h with _ h
     injection h with _ h
     exact absurd h h2
   · rename_i h2
     injection h with h3 h
     injection h with h4 _
     subst h3
     refine ⟨?_, by simpa using h2, h4.symm⟩
     rw [← h1']
theorem decZ_of {l : List UInt8} {es : List En} (h : decA l = some es) : decZ l = 0 ∧ decE l = es := by
 unfold decZ decE
 rw [h]
 exact ⟨rfl, rfl⟩
theorem decZ_no {l : List UInt8} (h : decA l = none) : decZ l = 8 := by
 unfold decZ
 rw [h]
 rfl
theorem chk_of (s : St) : chk s = 0 ∨ chk s = 8 ∨ chk s = 16 := by
 unfold chk
 split
 · split
   · split
     · exact .inl rfl
     · exact .inr (.inr rfl)
   · exact .inr (.inl rfl)
 · split
   · exact .inl rfl
   · exact .inr (.inr rfl)
theorem chk_map {s : St} (hm : s.hasMap = true) (hf : fitA (aidx s) = true) (hn : (aidx s).length < 4294967296) : chk s = 0 ↔ s.map = encA (aidx s) := by
 unfold chk
 rw [if_pos hm]
 cases hd : decA s.map with
 | none =>
   rw [decZ_no hd]
   constructor
   · intro h
     rw [if_neg (by decide)] at h
     exact absurd h (by decide)
   · intro h
     rw [h, Amp.decA_enc _ hf hn] at hd
     cases hd
 | some es =>
   obtain ⟨h1, h2⟩ := decZ_of hd
   obtain ⟨_, _, h3⟩ := Amp.enc_decA hd
   rw [h1, h2, if_pos rfl]
   constructor
   · intro h
     split at h
     · rename_i h4
       rw [← h3, sameE_eq.1 h4]
     · exact absurd h (by decide)
   · intro h
     have h4 : es = aidx s := by
       have h5 := Amp.decA_enc _ hf hn
       rw [← h, hd] at h5
       injection h5
     rw [if_pos (sameE_eq.2 h4)]
end Go.Proofs.YtjobmkodgodloaaGreatDoor.Con

namespace Go.Proofs.YtjobmkodgodloaaGreatDoor.Con
open Go.RowKit Go.Proofs Go.Proofs.YtjobmkodgodloaaGreatDoor.Byt
open Go.Proofs.YtjobmkodgodloaaGreatDoor.Sls (Oth)
open Go.Proofs.YtjobmkodgodloaaGreatDoor.Arp (Mem St Pm ar Arc RdA RdM RdI)
open Go.Proofs.YtjobmkodgodloaaGreatDoor.Six (defs defs_len rdefs_any rdm_cell sown_oth str_ent int_ent DefsP)
open Go.Proofs.YtjobmkodgodloaaGreatDoor.Amp (En RdE ecells)

structure ArgA (w : World) (K : Nat) (x : Arc) : Prop where
 rd : RdA w K x
 hK : K ≤ w.heap.size
 len : x.offs.length = x.mems.length
 cap : ∀ m ∈ x.mems, m.len ≤ m.cap ∧ m.cap ≤ maxLen
 mcap : x.mn ≤ x.mc ∧ x.mc ≤ maxLen
 mlen : x.mn ≤ 100000
 tot : sumP (x.mems.map Mem.pure) ≤ 100000
 cnt : x.mems.length ≤ 100000
theorem ArgA.on {w w' : World} {K : Nat} {x : Arc} (h : ArgA w K x) (hb : Below w.heap.size w w') : ArgA w' K x :=
 ⟨h.rd.below (hb.mono h.hK), Nat.le_trans h.hK hb.size, h.len, h.cap, h.mcap, h.mlen, h.tot, h.cnt⟩
theorem argA_of {w : World} {K : Nat} {x : Arc} {l : List UInt8} {s : St} {k : Nat} (ho : Arp.OwnA w K x) (hi : x.is s) (h : ar l = (s, k, 0)) (hl : l.length ≤ 100000) : ArgA w w.heap.size x := by
 obtain ⟨_, _, em, _, hm1, hm2⟩ := ho.map.reads
 injection em with _ em2 em3
 have hmem := Arp.ar_fit h
 obtain ⟨_, _, _, hOk⟩ := hmem
 obtain ⟨_, i2, i3, i4⟩ := hi
 have hr := ho.reads
 refine ⟨hr, Nat.le_refl _, ?_, fun m hm => ?_, ⟨by rw [em3]; exact hm1, by rw [em3]; exact hm2⟩, ?_, ?_, ?_⟩
 · rw [i4, hOk.len, ← i3, List.length_map]
 · obtain ⟨_, _, e, _, h1, h2⟩ := (ho.data m hm).reads
   injection e with _ _ e3
   exact ⟨by rw [e3]; exact h1, by rw [e3]; exact h2⟩
 · have h1 := hr.1.1
   rw [i2] at h1
   have h2 := ar_map_len h
   omega
 · rw [i3]
   have := ar_sum h
   omega
 · have e1 : x.mems.length = s.mems.length := by rw [← i3, List.length_map]
   have h9 := h
   rw [(Arp.ar_fit h).1] at h9
   have := Arp.ar_count h9
   omega
def EntsP (es : List En) (w : World) (e : Ending) (w' : World) : Prop :=
 ∃ A n c, e = .returned (.slice A n c) ∧ Cel.Own 95 2 w' w.heap.size (.slice A n c) n (ecells es) ∧ Below w.heap.size w w'
theorem EntsP.reads {es : List En} {w w' : World} {e : Ending} (h : EntsP es w e w') :
   ∃ A n c, e = .returned (.slice A n c) ∧ n = es.length ∧ RdE w' w'.heap.size A n es ∧ n ≤ c ∧ c ≤ maxLen ∧ Below w.heap.size w w' := by
 obtain ⟨A, n, c, rfl, ho, hb⟩ := h
 obtain ⟨A', c', e1, hr, hnc, hc⟩ := ho.reads
 injection e1 with e11 _ e13
 subst e11 e13
 have := Amp.rde_own ho
 exact ⟨A, n, c, rfl, this.1.symm, this, hnc, hc, hb⟩
def aentsX (x : Arc) : List En := aents x.offs (x.mems.map Mem.pure)
theorem aentsX_is {x : Arc} {s : St} (h : x.is s) : aentsX x = aidx s := by
 unfold aentsX aidx
 rw [h.2.2.1, h.2.2.2]
theorem ArgA.names {w : World} {K : Nat} {x : Arc} (h : ArgA w K x) : (namesP (x.mems.map Mem.pure)).length ≤ 20000 := by
 have h1 := namesP_len (x.mems.map Mem.pure)
 have := h.tot
 omega
set_option linter.unusedSimpArgs false in
set_option maxRecDepth 100000 in
set_option maxHeartbeats 4000000 in
theorem rindex_any (x : Arc) (K : Nat) (w : World) (h : ArgA w K x) :
   Calls Tryz.prog 16 #[x.val] w (EntsP (aentsX x) w) := by
 have HA := hid h
 have Hnm := hid h.names
 obtain ⟨xh, mp, mn, mc, xm, ap, an, ac, xms, op, on, oc, xos⟩ := x
 have Hrow := hid (heap_alloc_new w (.cells #[.bool xh, .slice mp mn mc, .slice ap an ac, .slice op on oc] 41))
 have hb1 := (Below.refl w.heap.size w).alloc (Nat.le_refl _) (.cells #[.bool xh, .slice mp mn mc, .slice ap an ac, .slice op on oc] 41)
 have hsz := World.size_alloc w (.cells #[.bool xh, .slice mp mn mc, .slice ap an ac, .slice op on oc] 41)
 obtain ⟨hrd, hK, hlen, hcap, _, _, htot, _⟩ := h
 simp only at hrd hlen hcap htot Hnm
 obtain ⟨rMap, rMem, rOff, _, _, _⟩ := hrd
 simp only at rMap rMem rOff
 have HM := hid rMem
 have HO := hid rOff
 have Hl := hid rMem.1
 have Hlen := hid hlen
 have Hcap := hid hcap
 have Htot := hid htot
 clear rMap rMem rOff hlen hcap htot
 simp only [Arp.Arc.val]
 go_enter Tryz.func16, Tryz.ntmps16
 go_upto_region 1 with fail
 obtain ⟨g, hg⟩ : ∃ g, w.heap.size = g := ⟨_, rfl⟩
 generalize w.alloc (.cells #[.bool xh, .slice mp mn mc, .slice ap an ac, .slice op on oc] 41) = w1 at *
 rw [hg]
 have hgK : K ≤ g := by omega
 have hg1 : g < w1.heap.size := by omega
 have HR : Hid (w1.heap[g]? = some (.cells #[.bool xh, .slice mp mn mc, .slice ap an ac, .slice op on oc] 41 (0, 0))) := hid (by have := Hrow.out; rw [hg] at this; exact this)
 have HM1 := hid (HM.out.below (hb1.mono hK))
 have HO1 := hid (HO.out.below (hb1.mono hK))
 have d2 := cell_of_row _ g 2 _ _ _ HR.out
 have HB1 := hid hb1
 clear hsz Hrow HM HO hb1 hK
 go_wp2_with fail
 clear d2
 go_loopw [3, 4] (fun v iv W => ∃ (k j : Nat) (A1 : Option Addr) (c1 : Nat), iv = .int .i64 (k : Int) ∧ k ≤ an ∧ v = .slice A1 j c1 ∧ Hid (j = (namesP ((xms.map Mem.pure).take k)).length) ∧ Cel.Own 95 2 W w1.heap.size (.slice A1 j c1) j (ecells (aents (xos.take k) ((xms.map Mem.pure).take k))) ∧ Below w1.heap.size w1 W) (fun _ iv _ => an - (intOf iv).toNat)
 case atStart => exact ⟨0, 0, none, 0, rfl, by omega, rfl, hid (by simp [namesP]), Cel.Own.nil _ _ _ _, Below.refl _ _⟩
 case round =>
   obtain ⟨k, j, A1, c1, rfl, hk, rfl, Hj, hO, hb⟩ := hrel
   have e2 := cell_of_row _ g 2 _ _ _ ((hb.block g hg1).trans HR.out)
   by_cases hlt : k < an
   · have hkl : k < xms.length := by have := Hl.out; omega
     have hkp : k < (xms.map Mem.pure).length := by rw [List.length_map]; exact hkl
     have hki : (k : Int) < (an : Int) := by omega
     obtain ⟨b, o, rfl, hbK, hcell, hrd⟩ := rdm_cell (HM1.out.below (hb.mono (by omega))) hkl
     obtain ⟨hx3, hx4⟩ := Hcap.out _ (List.getElem_mem hkl)
     have hx1 : xms[k].len ≤ 100000 := by
       have h1 := sumP_mem (xs := xms.map Mem.pure) (x := xms[k].pure) (List.mem_map_of_mem (List.getElem_mem hkl))
       have h2 := Htot.out
       have h3 := hrd.1
       have h4 : xms[k].pure.data.length = xms[k].data.length := rfl
       omega
     have HC := hid (rdefs_any K xms[k].ptr xms[k].len xms[k].cap xms[k].data wr hrd (by have := hb.size; omega) hx3 hx1)
     have HTn := hid (namesP_take hkp)
     have HTe := hid (aents_take (os := xos) (by rw [Hlen.out, List.length_map]) hkp)
     have ed : (xms.map Mem.pure)[k].data = xms[k].data := by rw [List.getElem_map]; rfl
     rw [ed] at HTn HTe
     have hol : k < xos.length := by rw [Hlen.out]; exact hkl
     have hkon : k < on := by have h1 := HO1.out.1; rw [h1] at hol; exact hol
     have hkoni : (k : Int) < (on : Int) := by omega
     obtain ⟨bo, oo, rfl, hboK, hoc⟩ := HO1.out.2 k hol
     have HOc := hid hoc
     have Hbo : Hid (bo < w1.heap.size) := hid (by omega)
     have Hjb : Hid (j + (defs xms[k].data).length ≤ 20000) := hid (by
       have h1 := Hnm.out
       have h2 : namesP (xms.map Mem.pure) = namesP ((xms.map Mem.pure).take (k + 1)) ++ namesP ((xms.map Mem.pure).drop (k + 1)) := by rw [← namesP_append, List.take_append_drop]
       rw [h2, List.length_append, HTn.out, List.length_append, ← Hj.out] at h1
       omega)
     have Hlen2 : Hid ((namesP ((xms.map Mem.pure).take (k + 1))).length = j + (defs xms[k].data).length) := hid (by rw [HTn.out, List.length_append, Hj.out])
     clear hoc hrd hx1 hx3 hx4 HTn ed hboK
     generalize xos[k]'hol = opv at *
     generalize xms[k] = x at *
     obtain ⟨x0, x1, x2, x3', x4', x5, x6, x7, x8⟩ := x
     simp only at *
     go_wp2_with fail
     refine HC.out.mono ?_
     rintro e w7 hD
     obtain ⟨A7, n7, c7, rfl, hn7, o7, _, _, _, hb7⟩ := hD.reads
     have Hn7 := hid hn7
     rw [← hn7] at Hjb Hlen2
     have hO7 := hO.below hb7
     have hb07 := hb.trans (hb7.mono hb.size)
     have hs7 := hb.size
     have hjq := Hjb.out
     obtain ⟨w7k, hw7k⟩ : ∃ w7k, wr.heap.size = w7k := ⟨_, rfl⟩
     rw [hw7k] at o7
     generalize defs x8 = ds at *
     clear hD hb7 hn7 HC hcell hO hb hw7k e2
     go_wp2_with fail
     go_loopw [3, 6] (fun v iv W => ∃ (q : Nat) (A4 : Option Addr) (c4 : Nat), iv = .int .i64 (q : Int) ∧ q ≤ n7 ∧ v = .slice A4 (j + q) c4 ∧ Cel.Own 95 2 W w1.heap.size (.slice A4 (j + q) c4) (j + q) (ecells (aents (xos.take k) ((xms.map Mem.pure).take k) ++ (ds.take q).map fun s => (⟨s, opv⟩ : En))) ∧ Sls.Own W w7k (.slice A7 n7 c7) n7 ds ∧ Below w1.heap.size w1 W) (fun _ iv _ => n7 - (intOf iv).toNat)
     case atStart => exact ⟨0, A1, c1, rfl, by omega, rfl, by simpa using hO7, o7, hb07⟩
     case round =>
       obtain ⟨q, A4, c4, rfl, hq, rfl, hE, hS, hb⟩ := hrel
       by_cases hqt : q < n7
       · have hql : q < ds.length := by have := Hn7.out; omega
         have hqi : (q : Int) < (n7 : Int) := by omega
         have hbd : Below wr.heap.size wr wr.drew := (Below.refl _ _).drew
         have hE1 := hE.below hbd
         have hS1' := hS.below hbd
         have hb1 := hb.trans (hbd.mono hb.size)
         obtain ⟨A6', c6', e6, r6, _, _⟩ := hS1'.reads
         injection e6 with e61 _ e63
         subst e61 e63
         obtain ⟨b6, o6, rfl, _, hc6⟩ := r6.2 q hql
         have HTs : Hid (ecells (aents (xos.take k) ((xms.map Mem.pure).take k) ++ (ds.take (q + 1)).map fun s => (⟨s, opv⟩ : En)) = ecells (aents (xos.take k) ((xms.map Mem.pure).take k) ++ (ds.take q).map fun s => (⟨s, opv⟩ : En)) ++ [.string ds[q], .int .i64 opv]) := hid (by
           rw [List.take_succ_eq_append_getElem hql, List.map_append, ← List.append_assoc, Amp.ecells_append]
           rfl)
         have HC6 := hid fun (W : World) (h : Sls.Own W w7k (.slice (some ⟨b6, o6, none⟩) n7 c7) n7 ds) => (show W.cell? ⟨b6, o6 + q, none⟩ = some (.string ds[q]) from by
           obtain ⟨A', c', e', r', _, _⟩ := h.reads
           injection e' with e1 _ e3
           subst e1 e3
           obtain ⟨b', o', e'', _, hc'⟩ := r'.2 q hql
           cases e''
           exact hc')
         generalize ds[q] = s at *
         clear hE hS hb hbd r6
         go_wp2_with fail
         have hS1 : (fun W' => W'.cell? ⟨g, 3, none⟩ = some (.slice (some ⟨bo, oo, none⟩) on oc) ∧ W'.cell? ⟨b6, o6 + q, none⟩ = some (.string s) ∧ W'.cell? ⟨bo, oo + k, none⟩ = some (.int .i64 opv)) wr.drew := ⟨cell_of_row _ g 3 _ _ _ ((hb1.block g hg1).trans HR.out), hc6, (hb1.cell (p := ⟨bo, oo + k, none⟩) Hbo.out).trans HOc.out⟩
         refine Ord.Till.begin (fun W' => W'.cell? ⟨g, 3, none⟩ = some (.slice (some ⟨bo, oo, none⟩) on oc) ∧ W'.cell? ⟨b6, o6 + q, none⟩ = some (.string s) ∧ W'.cell? ⟨bo, oo + k, none⟩ = some (.int .i64 opv)) 60 (by kernel_rfl) ?_
         generalize wr.drew = wd at *
         clear hc6
         refine Ord.Till.take' 0 (some 27) (oi := _) (x := ?_) rfl rfl (by kernel_rfl) (by kernel_rfl) (by kernel_rfl) (by kernel_rfl) (fun _ _ _ h => h) (by kernel_rfl) ?_ hS1 ?_
         rotate_left 1
         · intro v hv; obtain ⟨z0, z1, z2⟩ := hv; go_simp; first | done | with_reducible rfl
         try simp only [List.getElem_toArray, List.getElem_cons_zero, List.getElem_cons_succ, Act.put, List.setIfInBounds_toArray, List.set_cons_zero, List.set_cons_succ]
         refine Ord.Till.take' 1 (some 28) (oi := _) (x := ?_) rfl rfl (by kernel_rfl) (by kernel_rfl) (by kernel_rfl) (by kernel_rfl) (fun _ _ _ h => h) (by kernel_rfl) ?_ hS1 ?_
         rotate_left 1
         · intro v hv; obtain ⟨z0, z1, z2⟩ := hv; go_simp; first | done | with_reducible rfl
         try simp only [List.getElem_toArray, List.getElem_cons_zero, List.getElem_cons_succ, Act.put, List.setIfInBounds_toArray, List.set_cons_zero, List.set_cons_succ]
         refine Ord.Till.take' 2 (some 29) (oi := _) (x := ?_) rfl rfl (by kernel_rfl) (by kernel_rfl) (by kernel_rfl) (by kernel_rfl) (fun _ _ _ h => h) (by kernel_rfl) ?_ hS1 ?_
         rotate_left 1
         · intro v hv; obtain ⟨z0, z1, z2⟩ := hv; go_simp; first | done | with_reducible rfl
         try simp only [List.getElem_toArray, List.getElem_cons_zero, List.getElem_cons_succ, Act.put, List.setIfInBounds_toArray, List.set_cons_zero, List.set_cons_succ]
         refine Ord.Till.take' 3 (some 30) (oi := _) (x := ?_) rfl rfl (by kernel_rfl) (by kernel_rfl) (by kernel_rfl) (by kernel_rfl) (fun _ _ _ h => h) (by kernel_rfl) ?_ hS1 ?_
         rotate_left 1
         · intro v hv; obtain ⟨z0, z1, z2⟩ := hv; go_simp; first | done | with_reducible rfl
         try simp only [List.getElem_toArray, List.getElem_cons_zero, List.getElem_cons_succ, Act.put, List.setIfInBounds_toArray, List.set_cons_zero, List.set_cons_succ]
         refine Ord.Till.take' 4 (some 31) (oi := _) (x := ?_) rfl rfl (by kernel_rfl) (by kernel_rfl) (by kernel_rfl) (by kernel_rfl) (fun _ _ _ h => h) (by kernel_rfl) ?_ hS1 ?_
         rotate_left 1
         · intro v hv; obtain ⟨z0, z1, z2⟩ := hv; go_simp; first | done | with_reducible rfl
         try simp only [List.getElem_toArray, List.getElem_cons_zero, List.getElem_cons_succ, Act.put, List.setIfInBounds_toArray, List.set_cons_zero, List.set_cons_succ]
         refine Ord.Till.take' 5 (some 32) (oi := _) (x := ?_) rfl rfl (by kernel_rfl) (by kernel_rfl) (by kernel_rfl) (by kernel_rfl) (fun _ _ _ h => h) (by kernel_rfl) ?_ hS1 ?_
         rotate_left 1
         · intro v hv; obtain ⟨z0, z1, z2⟩ := hv; go_simp; first | done | with_reducible rfl
         try simp only [List.getElem_toArray, List.getElem_cons_zero, List.getElem_cons_succ, Act.put, List.setIfInBounds_toArray, List.set_cons_zero, List.set_cons_succ]
         refine Ord.Till.take' 6 (some 33) (oi := _) (x := ?_) rfl rfl (by kernel_rfl) (by kernel_rfl) (by kernel_rfl) (by kernel_rfl) (fun _ _ _ h => h) (by kernel_rfl) ?_ hS1 ?_
         rotate_left 1
         · intro v hv; obtain ⟨z0, z1, z2⟩ := hv; go_simp; first | done | with_reducible rfl
         try simp only [List.getElem_toArray, List.getElem_cons_zero, List.getElem_cons_succ, Act.put, List.setIfInBounds_toArray, List.set_cons_zero, List.set_cons_succ]
         refine Ord.Till.take' 7 (some 34) (oi := _) (x := ?_) rfl rfl (by kernel_rfl) (by kernel_rfl) (by kernel_rfl) (by kernel_rfl) (fun _ _ _ h => h) (by kernel_rfl) ?_ hS1 ?_
         rotate_left 1
         · intro v hv; obtain ⟨z0, z1, z2⟩ := hv; go_simp; first | done | with_reducible rfl
         try simp only [List.getElem_toArray, List.getElem_cons_zero, List.getElem_cons_succ, Act.put, List.setIfInBounds_toArray, List.set_cons_zero, List.set_cons_succ]
         refine Ord.Till.take' 8 (some 35) (oi := _) (x := ?_) rfl rfl (by kernel_rfl) (by kernel_rfl) (by kernel_rfl) (by kernel_rfl) (fun _ _ _ h => h) (by kernel_rfl) ?_ hS1 ?_
         rotate_left 1
         · intro v hv; obtain ⟨z0, z1, z2⟩ := hv; go_simp; first | done | with_reducible rfl
         try simp only [List.getElem_toArray, List.getElem_cons_zero, List.getElem_cons_succ, Act.put, List.setIfInBounds_toArray, List.set_cons_zero, List.set_cons_succ]
         refine Ord.Till.take' 9 (some 36) (oi := _) (x := ?_) rfl rfl (by kernel_rfl) (by kernel_rfl) (by kernel_rfl) (by kernel_rfl) (fun _ _ _ h => h) (by kernel_rfl) ?_ hS1 ?_
         rotate_left 1
         · intro v hv; obtain ⟨z0, z1, z2⟩ := hv; go_simp; first | done | with_reducible rfl
         try simp only [List.getElem_toArray, List.getElem_cons_zero, List.getElem_cons_succ, Act.put, List.setIfInBounds_toArray, List.set_cons_zero, List.set_cons_succ]
         refine Ord.Till.take' 10 (some 37) (oi := _) (x := ?_) rfl rfl (by kernel_rfl) (by kernel_rfl) (by kernel_rfl) (by kernel_rfl) (fun _ _ _ h => h) (by kernel_rfl) ?_ hS1 ?_
         rotate_left 1
         · intro v hv; obtain ⟨z0, z1, z2⟩ := hv; go_simp; first | done | with_reducible rfl
         try simp only [List.getElem_toArray, List.getElem_cons_zero, List.getElem_cons_succ, Act.put, List.setIfInBounds_toArray, List.set_cons_zero, List.set_cons_succ]
         refine Ord.Till.step 11 (by kernel_rfl) rfl (fun C hC => ?_)
         go_simp
         have hbA := (Below.refl wd.heap.size wd).alloc (Nat.le_refl _) (.cells #[.string s, .int .i64 opv] 95)
         have hnew := heap_alloc_new wd (.cells #[.string s, .int .i64 opv] 95)
         have hE2 := hE1.below hbA
         have hS2' := hS1'.below hbA
         have hb2 := hb1.trans (hbA.mono hb1.size)
         have hS2 : (fun W' => W'.cell? ⟨g, 3, none⟩ = some (.slice (some ⟨bo, oo, none⟩) on oc) ∧ W'.cell? ⟨b6, o6 + q, none⟩ = some (.string s) ∧ W'.cell? ⟨bo, oo + k, none⟩ = some (.int .i64 opv)) (wd.alloc (.cells #[.string s, .int .i64 opv] 95)) := ⟨cell_of_row _ g 3 _ _ _ ((hb2.block g hg1).trans HR.out), HC6.out _ hS2', (hb2.cell (p := ⟨bo, oo + k, none⟩) Hbo.out).trans HOc.out⟩
         refine hC.out _ _ (fun _ => hS2) ?_
         clear hC C hS1 hE1 hS1' hb1 hbA
         try simp only [List.getElem_toArray, List.getElem_cons_zero, List.getElem_cons_succ, Act.put, List.setIfInBounds_toArray, List.set_cons_zero, List.set_cons_succ]
         refine Ord.Till.step 12 (by kernel_rfl) rfl (fun C hC => ?_)
         refine Cel.step_app Amp.kE _ w1.heap.size (.slice A4 (j + q) c4) (j + q) _ hE2 hb2.size ⟨wd.heap.size, 0, none⟩ 1 1 [.string s, .int .i64 opv] rfl (by simp [Value.oneCell']) (World.news_of_block (cs := #[.string s, .int .i64 opv]) (t := 95) (fr := (0, 0)) hnew) (by omega) (by omega) rfl (.tmp 27) (.tmp 38) rfl rfl rfl ?_
         intro v4 w8 ho8 hb8 hot8 _
         obtain ⟨A8, c8, rfl, _⟩ := ho8.reads
         have hb3 := hb2.trans hb8
         have hS3' := sown_oth hS2' hot8 str_ent
         have hS3 : (fun W' => W'.cell? ⟨g, 3, none⟩ = some (.slice (some ⟨bo, oo, none⟩) on oc) ∧ W'.cell? ⟨b6, o6 + q, none⟩ = some (.string s) ∧ W'.cell? ⟨bo, oo + k, none⟩ = some (.int .i64 opv)) w8 := ⟨cell_of_row _ g 3 _ _ _ ((hb3.block g hg1).trans HR.out), HC6.out _ hS3', (hb3.cell (p := ⟨bo, oo + k, none⟩) Hbo.out).trans HOc.out⟩
         refine hC.out _ _ (fun _ => hS3) ?_
         clear hC C hS2 hE2 hS2' hb2 hot8 hnew hb8
         try simp only [List.getElem_toArray, List.getElem_cons_zero, List.getElem_cons_succ, Act.put, List.setIfInBounds_toArray, List.set_cons_zero, List.set_cons_succ]
         refine Ord.Till.step 13 (by kernel_rfl) rfl (fun C hC => ?_)
         go_simp
         refine hC.out _ _ (fun _ => hS3) ?_
         clear hC C
         try simp only [List.getElem_toArray, List.getElem_cons_zero, List.getElem_cons_succ, Act.put, List.setIfInBounds_toArray, List.set_cons_zero, List.set_cons_succ]
         refine Ord.Till.done (by kernel_rfl) ?_ _
         clear hS3
         have ho8' : Cel.Own 95 2 w8 w1.heap.size (.slice A8 (j + q + 1) c8) (j + q + 1) (ecells (aents (xos.take k) ((xms.map Mem.pure).take k) ++ (ds.take (q + 1)).map fun s => (⟨s, opv⟩ : En))) := by rw [HTs.out]; exact ho8
         clear ho8 HC6
         go_wp2_with fail
         go_roundw
         · exact ⟨q + 1, A8, c8, by go_num, by omega, rfl, ho8', hS3', hb3⟩
         · simp [intOf]; omega
       · obtain rfl : q = n7 := by omega
         have hqi : ¬ (q : Int) < (q : Int) := by omega
         have e1 : ds.take q = ds := List.take_of_length_le (by have := Hn7.out; omega)
         rw [e1, ← HTe.out] at hE
         clear e1 hS
         go_wp2_with fail
         go_roundw
         · exact ⟨k + 1, j + q, A4, c4, by go_num, by omega, rfl, hid Hlen2.out.symm, hE, hb⟩
         · simp [intOf]; omega
   · obtain rfl : k = an := by omega
     have hki : ¬ (k : Int) < (k : Int) := by omega
     have hT : (xms.map Mem.pure).take k = xms.map Mem.pure := List.take_of_length_le (by rw [List.length_map]; have := Hl.out; omega)
     have hT2 : xos.take k = xos := List.take_of_length_le (by rw [Hlen.out]; have := Hl.out; omega)
     rw [hT, hT2] at hO
     have hB := HB1.out.trans (hb.mono HB1.out.size)
     rw [hg] at hB
     clear hT hT2 Hj hb
     go_wp2_with fail
     go_ret
     exact ⟨A1, j, c1, rfl, hO.more (by omega), by rw [hg]; exact hB⟩
end Go.Proofs.YtjobmkodgodloaaGreatDoor.Con

namespace Go.Proofs.YtjobmkodgodloaaGreatDoor.Con
open Go.RowKit Go.Proofs Go.Proofs.YtjobmkodgodloaaGreatDoor.Byt
open Go.Proofs.YtjobmkodgodloaaGreatDoor.Sls (Oth)
open Go.Proofs.YtjobmkodgodloaaGreatDoor.Arp (Mem St Pm ar Arc RdA RdM RdI load_four)
open Go.Proofs.YtjobmkodgodloaaGreatDoor.Six (defs defs_len rdefs_any rdm_cell RdL OwnL)
open Go.Proofs.YtjobmkodgodloaaGreatDoor.Amp (En RdE ecells decZ decE sameE)

end Go.Proofs.YtjobmkodgodloaaGreatDoor.Con

namespace Go.Proofs.YtjobmkodgodloaaGreatDoor.Con
open Go.RowKit Go.Proofs Go.Proofs.YtjobmkodgodloaaGreatDoor.Byt
open Go.Proofs.YtjobmkodgodloaaGreatDoor.Sls (Oth)
open Go.Proofs.YtjobmkodgodloaaGreatDoor.Arp (Mem St Pm ar Arc RdA RdM RdI OwnM OwnA sameMs mcells)
open Go.Proofs.YtjobmkodgodloaaGreatDoor.Six (defs defs_len rdefs_any rdm_cell RdL OwnL)
open Go.Proofs.YtjobmkodgodloaaGreatDoor.Amp (En RdE ecells decZ decE sameE)

structure Vw where
 mp : Option Addr
 mn : Nat
 mc : Nat
 mems : List Mem
 dp : Option Addr
 dn : Nat
 dc : Nat
 dfs : List (List ByteArray)
def Vw.val (v : Vw) : Value := .agg #[.slice v.mp v.mn v.mc, .slice v.dp v.dn v.dc]
def RdV (w : World) (K : Nat) (v : Vw) : Prop := RdM w K v.mp v.mn v.mems ∧ RdL w K v.dp v.dn v.dfs ∧ v.mn ≤ 140737488355328 ∧ v.dn ≤ 140737488355328 ∧ ∀ d ∈ v.dfs, d.length ≤ 140737488355328
theorem RdV.below {w w' : World} {K : Nat} {v : Vw} (h : RdV w K v) (hb : Below K w w') : RdV w' K v := ⟨h.1.below hb, h.2.1.below hb, h.2.2⟩
theorem RdV.more {w : World} {K K' : Nat} {v : Vw} (h : RdV w K v) (hK : K ≤ K') : RdV w K' v := ⟨h.1.more hK, h.2.1.more hK, h.2.2⟩
def Vw.is (v : Vw) (s : St) : Prop := v.mems.map Mem.pure = s.mems ∧ v.dfs = defsP s.mems

theorem cell_keep {W W1 : World} {p : Addr} {v : Value} (hb : Below W.heap.size W W1) (h : W.cell? p = some v) : W1.cell? p = some v := by
 rw [hb.cell (World.block_lt_of_cell? W p h)]; exact h
theorem keep4 {V W W1 : World} {p q r s : Addr} {a b c d : Value} (h : W.cell? p = some a ∧ W.cell? q = some b ∧ W.cell? r = some c ∧ W.cell? s = some d ∧ Below V.heap.size V W) (hb : Below W.heap.size W W1) :
   W1.cell? p = some a ∧ W1.cell? q = some b ∧ W1.cell? r = some c ∧ W1.cell? s = some d ∧ Below V.heap.size V W1 := by
 obtain ⟨h0, h1, h2, h3, h4⟩ := h
 exact ⟨cell_keep hb h0, cell_keep hb h1, cell_keep hb h2, cell_keep hb h3, h4.trans (hb.mono h4.size)⟩
theorem held4 {V W : World} {p q r s : Addr} {a b c d : Value} (h : W.cell? p = some a ∧ W.cell? q = some b ∧ W.cell? r = some c ∧ W.cell? s = some d ∧ Below V.heap.size V W) : Below V.heap.size V W := h.2.2.2.2

set_option linter.unusedSimpArgs false in
set_option maxRecDepth 100000 in
set_option maxHeartbeats 2000000 in
theorem rsameV_any (x y : Vw) (K : Nat) (w : World) (h : RdV w K x) (h' : RdV w K y) (hK : K ≤ w.heap.size) (hs : sameMs x.mems y.mems = true) (hd : x.dfs = y.dfs) :
   Calls Tryz.prog 11 #[x.val, y.val] w fun e w' => e = .returned (.bool true) ∧ Below w.heap.size w w' := by
 obtain ⟨r1, r2, r3, r5, r4⟩ := h
 obtain ⟨s1, s2, _, _⟩ := h'
 obtain ⟨xp, xn, xc, xm, xq, xk, xd, xl⟩ := x
 obtain ⟨yp, yn, yc, ym, yq, yk, yd, yl⟩ := y
 simp only at r1 r2 r3 r4 r5 s1 s2 hs hd
 subst hd
 obtain rfl : xk = yk := r2.1.symm.trans s2.1
 simp only [Vw.val]
 have hrx := heap_alloc_new w (.cells #[.slice xp xn xc, .slice xq xk xd] 31)
 have hbx := (Below.refl w.heap.size w).alloc (Nat.le_refl _) (.cells #[.slice xp xn xc, .slice xq xk xd] 31)
 have hsx := World.size_alloc w (.cells #[.slice xp xn xc, .slice xq xk xd] 31)
 go_enter Tryz.func11, Tryz.ntmps11
 go_upto_region 1 with fail
 generalize w.alloc (.cells #[.slice xp xn xc, .slice xq xk xd] 31) = w0 at *
 obtain ⟨g, hg⟩ : ∃ g, w.heap.size = g := ⟨_, rfl⟩
 have hry := heap_alloc_new w0 (.cells #[.slice yp yn yc, .slice yq xk yd] 31)
 have hby := (Below.refl w0.heap.size w0).alloc (Nat.le_refl _) (.cells #[.slice yp yn yc, .slice yq xk yd] 31)
 have hsy := World.size_alloc w0 (.cells #[.slice yp yn yc, .slice yq xk yd] 31)
 rw [hsx] at hry
 try rw [hsx]
 generalize w0.alloc (.cells #[.slice yp yn yc, .slice yq xk yd] 31) = w1 at *
 have hB1 := hbx.trans (hby.mono hbx.size)
 have hrx1 := (hby.block w.heap.size (by omega)).trans hrx
 rw [hg] at hry hrx1 hsx hK
 rw [hg]
 have hsz : w1.heap.size = g + 2 := by omega
 have HR0 := hid hrx1
 have HR1 := hid hry
 have r1' := hid (r1.below (hB1.mono (by omega)))
 have s1' := hid (s1.below (hB1.mono (by omega)))
 have r2' := hid (r2.below (hB1.mono (by omega)))
 have s2' := hid (s2.below (hB1.mono (by omega)))
 have HB1 := hid hB1
 have HS := hid hs
 have HR4 := hid r4
 have Hl := hid r2.1
 have e0 := cell_of_row _ g 0 _ _ _ hrx1
 have e1 := cell_of_row _ g 1 _ _ _ hrx1
 have f0 := cell_of_row _ (g + 1) 0 _ _ _ hry
 have f1 := cell_of_row _ (g + 1) 1 _ _ _ hry
 clear hrx hry hrx1 hbx hby hsx hsy r1 s1 r2 s2 hB1 hs r4
 go_wp2_with fail
 refine (Arp.rsamemembers_any K xp yp xn xc yn yc xm ym w1 r1'.out s1'.out (by omega) r3).mono ?_
 rintro e w2 ⟨rfl, hb2⟩
 rw [HS.out]
 have B2 := HB1.out.trans (hb2.mono (by omega))
 have HR0' := hid ((hb2.block g (by omega)).trans HR0.out)
 have HR1' := hid ((hb2.block (g + 1) (by omega)).trans HR1.out)
 have hs2 := hb2.size
 have HB2 := hid B2
 have hr2 := hid (r2'.out.below (hb2.mono (by omega)))
 have hs2' := hid (s2'.out.below (hb2.mono (by omega)))
 have hne : ((xk : Int) != (xk : Int)) = false := by simp
 have hlt0 : g + 1 < w2.heap.size := by omega
 have hK2 : K ≤ w2.heap.size := by omega
 clear e0 e1 f0 f1 hb2 B2 HR0 HR1 r1' s1' r2' s2' hsz HB1
 have e1 := cell_of_row _ g 1 _ _ _ HR0'.out
 have f1 := cell_of_row _ (g + 1) 1 _ _ _ HR1'.out
 go_wp2_with fail
 clear e1 f1
 go_loopw [5] (fun iv W => ∃ (k : Nat), iv = .int .i64 (k : Int) ∧ k ≤ xk ∧ Below w2.heap.size w2 W) (fun iv _ => xk - (intOf iv).toNat)
 case atStart => exact ⟨0, rfl, by omega, Below.refl _ _⟩
 case round =>
   obtain ⟨k, rfl, hk, hb⟩ := hrel
   have e1 := cell_of_row _ g 1 _ _ _ ((hb.block g (by omega)).trans HR0'.out)
   have f1 := cell_of_row _ (g + 1) 1 _ _ _ ((hb.block (g + 1) hlt0).trans HR1'.out)
   by_cases hlt : k < xk
   · have hkl : k < xl.length := by have := Hl.out; omega
     have hki : (k : Int) < (xk : Int) := by omega
     obtain ⟨b, o, A', c', rfl, hbK, hcx, hrdx, _, _⟩ := (hr2.out.below (hb.mono hK2)).2 k hkl
     obtain ⟨b2, o2, A2', c2', rfl, hbK2, hcy, hrdy, _, _⟩ := (hs2'.out.below (hb.mono hK2)).2 k hkl
     have hdl := HR4.out _ (List.getElem_mem hkl)
     have HT : Hid (∀ W, Below wr.heap.size wr W → Calls Tryz.prog 32 #[.slice A' xl[k].length c', .slice A2' xl[k].length c2'] W fun e W' => e = .returned (.bool true) ∧ Below W.heap.size W W') := hid fun W hW => by
       refine (Lnm.texts_any K K A' A2' xl[k].length c' xl[k].length c2' xl[k] xl[k] W (hrdx.below (hW.mono (by have := hb.size; omega))) (hrdy.below (hW.mono (by have := hb.size; omega))) hdl).mono ?_
       rintro e W' ⟨rfl, m, rfl⟩
       exact ⟨by rw [Lnm.eqs_iff.2 rfl], Dec.below_drewN _ m⟩
     have hbd : Below wr.heap.size wr wr.drew := (Below.refl _ _).drew
     have HB := hid hb
     generalize xl[k].length = zl at *
     generalize xl[k] = zz at *
     clear hrdx hrdy hdl hb
     go_wp2_with fail
     go_region_held3 (fun W' => W'.cell? ⟨g, 1, none⟩ = some (.slice (some ⟨b, o, none⟩) xk xd) ∧ W'.cell? ⟨g + 1, 1, none⟩ = some (.slice (some ⟨b2, o2, none⟩) xk yd) ∧ W'.cell? ⟨b, o + k, none⟩ = some (.slice A' zl c') ∧ W'.cell? ⟨b2, o2 + k, none⟩ = some (.slice A2' zl c2') ∧ Below wr.heap.size wr W')
       (first | exact ⟨e1, f1, hcx, hcy, hbd⟩ | exact keep4 (by assumption) hbX)
       (first
         | (go_at_call 32; refine (HT.out _ (by first | assumption | exact held4 (by assumption))).mono ?_; rintro e w' ⟨rfl, hbX⟩)
         | fail)
     rename_i hh
     have hZ := HB.out.trans ((held4 (V := wr) hh).mono HB.out.size)
     clear hh
     go_wp2_with fail
     go_roundw
     · exact ⟨k + 1, by go_num, by omega, hZ⟩
     · simp [intOf]; omega
   · obtain rfl : k = xk := by omega
     have hki : ¬ (k : Int) < (k : Int) := by omega
     have B3 := HB2.out.trans (hb.mono HB2.out.size)
     clear hb
     go_wp2_with fail
     go_ret
     exact ⟨rfl, by first | exact B3 | (rw [← hg]; exact B3)⟩
end Go.Proofs.YtjobmkodgodloaaGreatDoor.Con
