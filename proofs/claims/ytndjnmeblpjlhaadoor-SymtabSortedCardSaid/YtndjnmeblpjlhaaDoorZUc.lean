/-
  SymtabSorted, walked.
-/
import Derived.Test.YtndjnmeblpjlhaaDoorZUb
import Derived.BigQuiet
namespace Go.Proofs.YtndjnmeblpjlhaaDoor.Tab
open Go.RowKit Go.Proofs Go.Proofs.YtndjnmeblpjlhaaDoor.Byt
open Go.Proofs.YtndjnmeblpjlhaaDoor.Obj (Sy RdS SCells)
open Go.Proofs.YtndjnmeblpjlhaaDoor.Bnd

theorem asc_at {l : List ByteArray} (h : Asc l) {i : Nat} (hi : i + 1 < l.length) : bl l[i] l[i + 1] = true := List.pairwise_iff_getElem.1 h i (i + 1) (by omega) hi (Nat.lt_succ_self _)
set_option linter.unusedSimpArgs false in
set_option maxRecDepth 100000 in
set_option maxHeartbeats 16000000 in
theorem sorted14 (w : World) (hP : Prec w) (A : Option Addr) (n c : Nat) (os : List (List Sy)) (h : RdO w w.heap.size A n os) :
    Calls Tryd.prog 5 #[.slice A n c] w fun e w' => e = .returned (.bool true) ∧ Below w.heap.size w w' := by
  have Hl := hid h.1
  have HA := hid fun (V : World) (hV : Below w.heap.size w V) => awake_any V (hP.on hV)
  go_enter Tryd.func5, Tryd.ntmps5
  go_wp2_with fail
  refine (HA.out w (Below.refl _ _)).mono ?_
  rintro e w1 ⟨rfl, b1⟩
  go_wp2_with fail
  refine (rright_any w.heap.size A n c os w1 (h.below b1) b1.size).mono ?_
  rintro e w2 ⟨b2', hr⟩
  have b2 := b1.trans (b2'.mono b1.size)
  clear b2' b1
  rcases hr with ⟨rfl, hR⟩ | rfl
  case inr =>
    go_wp2_with fail
    refine (HA.out w2 b2).mono ?_
    rintro e w3 ⟨rfl, b3⟩
    go_wp2_with fail
    go_ret
    exact ⟨rfl, b2.trans (b3.mono b2.size)⟩
  case inl =>
  have HK := hid hR.ok
  have hn12 : n ≤ 12 := by have := HK.out.len; have := Hl.out; omega
  clear hR
  have hb3 := (Below.refl w2.heap.size w2).alloc (Nat.le_refl _) (.cells #[.int .i64 0, .map none] 29)
  have hn3 := heap_alloc_new w2 (.cells #[.int .i64 0, .map none] 29)
  have hL3 := Ld.start (os := os) (b2.trans (hb3.mono b2.size)) hn3 b2.size
  go_upto_region 4 with fail
  generalize w2.alloc (.cells #[.int .i64 0, .map none] 29) = w3 at *
  obtain ⟨T, hT⟩ : ∃ T, w2.heap.size = T := ⟨_, rfl⟩
  rw [hT] at hL3
  rw [hT]
  clear hb3 hn3 hT b2 HA
  go_wp2_with fail
  go_loopw [4] (fun iv W => ∃ (k : Nat) (mo : Option Nat), iv = .int .i64 (k : Int) ∧ k ≤ n ∧ Ld w os T mo k W) (fun iv _ => n - (intOf iv).toNat)
  case atStart => exact ⟨0, none, rfl, by omega, hL3⟩
  case round =>
    obtain ⟨k, mo, rfl, hk, hL⟩ := hrel
    clear hL3
    by_cases hlt : k < n
    · have hkl : k < os.length := by have := Hl.out; omega
      have hki : (k : Int) < (n : Int) := by omega
      obtain ⟨b, o, rfl, hbK, S, B, p, cs, md, d, q0, q1, hob⟩ := h.2 k hkl
      have c0 := (hL.b.cell (p := ⟨b, o + k * 2, none⟩) hbK).trans q0
      have c1 := (hL.b.cell (p := ⟨b, o + k * 2 + 1, none⟩) hbK).trans q1
      have HR := hid (ld_round hL hP HK.out hkl hob)
      clear hL q0 q1 hob
      go_wp2_with fail
      refine HR.out.mono ?_
      rintro e w4 ⟨rfl, M, hL4, _⟩
      clear HR c0 c1
      go_wp2_with fail
      go_roundw
      · exact ⟨k + 1, some M, by go_num, by omega, hL4⟩
      · simp [intOf]; omega
    · obtain rfl : k = n := by omega
      have hki : ¬ (k : Int) < (k : Int) := by omega
      generalize wr = V0 at *
      have hos : os.take k = os := List.take_of_length_le (by have := Hl.out; omega)
      have HT := hid fun (V : World) (hV : Below V0.heap.size V0 V) => (hos ▸ (hL.on hV).t : Tb V T T mo os)
      have HB := hid fun (V : World) (hV : Below V0.heap.size V0 V) => (hL.on hV).b
      have b0 : Below V0.heap.size V0 V0 := Below.refl _ _
      clear hL hos
      go_wp2_with fail
      refine (tnames_any (HT.out V0 b0) HK.out).mono ?_
      rintro e w4 ⟨A4, c4, rfl, o4, b4⟩
      go_wp2_with fail
      refine (twanted_any (HT.out w4 b4) HK.out).mono ?_
      rintro e w5 ⟨A5, c5, rfl, o5, b5⟩
      have R4 := ((nowned o4).below b5).more b5.size
      have R5 := nowned o5
      have b05 := b4.trans (b5.mono b4.size)
      have HRd := hid fun (V : World) (hV : Below w5.heap.size w5 V) => (⟨R4.below hV, R5.below hV⟩ : _ ∧ _)
      have HBd := hid fun (V : World) (hV : Below w5.heap.size w5 V) => b05.trans (hV.mono b05.size)
      have HAs := hid (nms_asc os)
      have HW : Hid (wntL os = (nms os).filter fun x => wantd (ofL (uses os x))) := hid rfl
      have hLl : (nms os).length ≤ 240 := HK.out.nmsl
      clear o4 o5 b4 b5 R4 R5 b05 b0
      generalize nms os = L at *
      generalize wntL os = Q at *
      obtain ⟨m, hm⟩ : ∃ m, L.length = m := ⟨_, rfl⟩
      obtain ⟨q, hq⟩ : ∃ q, Q.length = q := ⟨_, rfl⟩
      rw [hm] at HRd hLl
      rw [hq] at HRd
      rw [hm, hq]
      have HM := hid hm
      have HQ := hid hq
      clear hm hq
      go_wp2_with fail
      go_loopw [7, 8] (fun kv iv W => ∃ (i j : Nat), iv = .int .i64 (i : Int) ∧ i ≤ m ∧ kv = .int .i64 (j : Int) ∧ Hid (j = ((L.take i).filter fun x => wantd (ofL (uses os x))).length) ∧ Below w5.heap.size w5 W) (fun _ iv _ => m - (intOf iv).toNat)
      case atStart => exact ⟨0, 0, rfl, by omega, rfl, hid rfl, Below.refl _ _⟩
      case round =>
      obtain ⟨i, j, rfl, hi, rfl, hj, hb⟩ := hrel
      by_cases hlt2 : i < m
      · have hil : i < L.length := by have := HM.out; omega
        have hii : (i : Int) < (m : Int) := by omega
        obtain ⟨hr4, hr5⟩ := HRd.out wr hb
        obtain ⟨b, o, rfl, hbK, d0⟩ := hr4.2 i hil
        have HC := hid fun (V : World) (hV : Below w5.heap.size w5 V) => (by obtain ⟨b', o', e, _, q⟩ := (HRd.out V hV).1.2 i hil; injection e with e; injection e with e1 e2; subst e1 e2; exact q : V.cell? ⟨b, o + i, none⟩ = some (.string L[i]))
        have hj2 : j ≤ 240 := by
          have h1 := List.length_filter_le (fun x => wantd (ofL (uses os x))) (L.take i)
          rw [List.length_take] at h1
          have := hj.out
          omega
        go_upto_region 14 with fail
        go_cut [49] from 36 to 49 (fun s49 W => s49 = .bool false ∧ Below wr.heap.size wr W)
        case first =>
          rcases i with _ | i
          · go_quiet (fail)
            go_wp2_with fail
            go_meet
            exact ⟨rfl, bdr (Below.refl _ _) _⟩
          · have hlo : bl L[i] L[i + 1] = true := asc_at HAs.out hil
            have e1 : Op.bytesLess L[i].toList L[i + 1].toList = true := hlo
            obtain ⟨b', o', e, _, d1⟩ := hr4.2 i (by omega)
            injection e with e
            injection e with e1' e2'
            subst e1' e2'
            generalize L[i] = x at *
            generalize L[i + 1] = y at *
            have hgt : decide ((0 : Int) < ((i + 1 : Nat) : Int)) = true := decide_eq_true (by omega)
            have hsub : ((i + 1 : Nat) : Int) - 1 = (i : Int) := by omega
            have hii' : (i : Int) < (m : Int) := by omega
            go_quiet (fail)
            go_wp2_with fail
            go_meet
            exact ⟨rfl, bdr (Below.refl _ _) _⟩
        case rest =>
          obtain ⟨rfl, hbz⟩ := hcut
          have bz := hb.trans (hbz.mono hb.size)
          clear hbz hb d0 hr4 hr5
          generalize wr = V1 at *
          have d0 := HC.out wc bz
          have HF : Hid (wantd (ofL (uses os L[i])) = true → ((L.take (i + 1)).filter fun x => wantd (ofL (uses os x))).length = j + 1 ∧ Q[j]? = some L[i] ∧ j < q) := hid fun hp => by
            have e1 := filter_step (fun x => wantd (ofL (uses os x))) hil
            have e2 := filter_at (fun x => wantd (ofL (uses os x))) L i hil hp
            rw [← hj.out] at e2
            rw [← HW.out] at e2
            refine ⟨?_, e2, ?_⟩
            · rw [e1, hp, List.length_append, ← hj.out]
              rfl
            · have := (List.getElem?_eq_some_iff.1 e2).1
              have := HQ.out
              omega
          have HG : Hid (wantd (ofL (uses os L[i])) = false → ((L.take (i + 1)).filter fun x => wantd (ofL (uses os x))).length = j) := hid fun hp => by
            have e1 := filter_step (fun x => wantd (ofL (uses os x))) hil
            rw [e1, hp, List.length_append, ← hj.out]
            rfl
          have HSt := hid fun (x : ByteArray) => tstate_any (HT.out wc (HBd.out wc bz)) HK.out x
          have hSt := hid (HSt.out L[i])
          clear HSt
          generalize L[i] = x at *
          go_wp2_with fail
          refine hSt.out.mono ?_
          rintro e w6 ⟨v6, rfl, _, b6⟩
          clear hSt
          obtain ⟨pb, hpb⟩ : ∃ pb, wantd (ofL (uses os x)) = pb := ⟨_, rfl⟩
          rw [hpb] at HF HG
          have HWt := hid fun V => wanted_any (ofL (uses os x)) v6 V
          rw [hpb] at HWt
          clear hpb
          go_wp2_with fail
          refine (HWt.out w6).mono ?_
          rintro e w7 ⟨rfl, b7⟩
          have b67 := bz.trans ((b6.trans (b7.mono b6.size)).mono bz.size)
          clear HWt b6 b7 bz d0
          have d0 := HC.out w7 b67
          cases pb
          · have HJ : Hid (j = ((L.take (i + 1)).filter fun x => wantd (ofL (uses os x))).length) := hid (HG.out rfl).symm
            go_wp2_with fail
            go_roundw
            · exact ⟨i + 1, j, by go_num, by omega, rfl, HJ, b67⟩
            · simp [intOf]; omega
          · obtain ⟨f1, f2, f3⟩ := HF.out rfl
            have HJ : Hid (j + 1 = ((L.take (i + 1)).filter fun x => wantd (ofL (uses os x))).length) := hid f1.symm
            have hji : ¬ ((q : Int) ≤ (j : Int)) := by omega
            have hjl : j < Q.length := by have := HQ.out; omega
            obtain ⟨b', o', rfl, _, d1⟩ := (HRd.out w7 b67).2.2 j hjl
            have f2' : Q[j] = x := by
              rw [List.getElem?_eq_getElem hjl] at f2
              injection f2
            rw [f2'] at d1
            have hjq : (j : Int) < (q : Int) := by omega
            have hjd : decide ((q : Int) ≤ (j : Int)) = false := decide_eq_false hji
            clear HF HG f1 f2 f2'
            go_upto_region 17 with fail
            go_quiet (fail)
            go_wp2_with fail
            go_roundw
            · exact ⟨i + 1, j + 1, by go_num, by omega, by go_num, HJ, bdr b67 _⟩
            · simp [intOf]; omega
      · obtain rfl : i = m := by omega
        have hii : ¬ (i : Int) < (i : Int) := by omega
        obtain rfl : j = q := by
          have h1 := hj.out
          rw [List.take_of_length_le (by have := HM.out; omega), ← HW.out] at h1
          have := HQ.out
          omega
        have B9 := HB.out wr (HBd.out wr hb)
        clear hj
        go_wp2_with fail
        go_ret
        exact ⟨ret_bool (by simp), B9⟩
end Go.Proofs.YtndjnmeblpjlhaaDoor.Tab
