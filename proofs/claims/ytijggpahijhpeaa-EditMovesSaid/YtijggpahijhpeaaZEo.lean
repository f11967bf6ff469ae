/-
  EditMoves, from the program's contracts: moving a member keeps the order of all others; the member is then directly before or after the anchor, or the last one; moving it again changes nothing.
-/
import Derived.Test.YtijggpahijhpeaaZEl
namespace Go.Proofs.Ytijggpahijhpeaa.Edt
open Go.RowKit Go.Proofs Go.Proofs.Ytijggpahijhpeaa.Byt
open Go.Proofs.Ytijggpahijhpeaa.Arp (Mem RdM OwnM mcells)
open Go.Proofs.Ytijggpahijhpeaa.Arw (core MOk RdM0)

/-- A place in its variable. -/
def BoxP (g : Nat) (z : Int) (a : ByteArray) (W : World) : Prop := W.cell? ⟨g, 0, none⟩ = some (.int .i64 z) ∧ W.cell? ⟨g, 1, none⟩ = some (.string a)

set_option linter.unusedSimpArgs false in
set_option maxRecDepth 100000 in
set_option maxHeartbeats 16000000 in
theorem moves10 (P : PC10) (w : World) (A : Option Addr) (n c : Nat) (xs : List Mem) (h : RdM0 w w.heap.size A n xs) (hnc : n ≤ c) (hcm : c ≤ maxLen) (hB : ∀ x ∈ xs, Frame.MB x) (nm : ByteArray) (z : Int) (a : ByteArray) (lz : -9223372036854775808 ≤ z) (uz : z < 9223372036854775808) :
    Calls Try.prog 5 #[.slice A n c, .string nm, plaV z a] w fun e w' => e = .returned (.bool true) ∧ Below w.heap.size w w' := by
  have HP := hid P
  have hbp := (Below.refl w.heap.size w).alloc (Nat.le_refl _) (.cells #[.int .i64 z, .string a] 27)
  have hrp := heap_alloc_new w (.cells #[.int .i64 z, .string a] 27)
  have hsp := World.size_alloc w (.cells #[.int .i64 z, .string a] 27)
  simp only [plaV]
  go_enter Try.func5, Try.ntmps5
  go_upto_region 1 with fail
  generalize w.alloc (.cells #[.int .i64 z, .string a] 27) = w0 at *
  obtain ⟨g, hg⟩ : ∃ g, w.heap.size = g := ⟨_, rfl⟩
  have B0 := hbp
  rw [hg] at hrp hsp
  try rw [hg]
  have HBox : Hid (∀ W, Below w0.heap.size w0 W → BoxP g z a W) := hid fun W hW => by
    have q := (hW.block g (by omega)).trans hrp
    exact ⟨cell_of_row _ g 0 _ _ _ q, cell_of_row _ g 1 _ _ _ q⟩
  have HG := hid hg
  clear hbp hrp hsp hg
  go_wp2_with fail
  refine (awake10_any HP.out w0).mono ?_
  rintro e w1 ⟨rfl, hb1⟩
  go_wp2_with fail
  refine (Arw.few5_any w.heap.size A n c xs w1 (h.below (B0.trans (hb1.mono B0.size))) (Nat.le_trans B0.size hb1.size)).mono ?_
  rintro e w2 ⟨rfl, hb2⟩
  have b2 := hb1.trans (hb2.mono hb1.size)
  clear hb1 hb2
  obtain ⟨c0, c1⟩ := HBox.out w2 b2
  cases hf : Arw.fewM xs
  · go_wp2_with fail
    refine (awake10_any HP.out w2).mono ?_
    rintro e w9 ⟨rfl, hb9⟩
    go_wp2_with fail
    go_ret
    exact ⟨rfl, B0.trans ((b2.trans (hb9.mono b2.size)).mono B0.size)⟩
  obtain ⟨k1, _, k3⟩ := Arw.fewM_iff.1 hf
  by_cases q0 : 300 < nm.size
  · have q0i : (300 : Int) < (nm.size : Int) := by omega
    go_wp2_with fail
    refine (awake10_any HP.out w2).mono ?_
    rintro e w9 ⟨rfl, hb9⟩
    go_wp2_with fail
    go_ret
    exact ⟨rfl, B0.trans ((b2.trans (hb9.mono b2.size)).mono B0.size)⟩
  have q0i : ¬ (300 : Int) < (nm.size : Int) := by omega
  by_cases q1 : 300 < a.size
  · have q1i : (300 : Int) < (a.size : Int) := by omega
    go_wp2_with fail
    refine (awake10_any HP.out w2).mono ?_
    rintro e w9 ⟨rfl, hb9⟩
    go_wp2_with fail
    go_ret
    exact ⟨rfl, B0.trans ((b2.trans (hb9.mono b2.size)).mono B0.size)⟩
  have q1i : ¬ (300 : Int) < (a.size : Int) := by omega
  have hM := h.to (fun x hx => (k3 x hx).2)
  have hok : ∀ x ∈ xs, MOk x := fun x hx => (hB x hx).ok (k3 x hx).1 (k3 x hx).2
  have hxl : xs.length = n := h.1
  have hn20 : n ≤ 20 := by omega
  have HAM : Hid (∀ W, Below w0.heap.size w0 W → ArgM W w.heap.size A n c xs) := hid fun W hW => ⟨hM.below (B0.trans (hW.mono B0.size)), Nat.le_trans B0.size hW.size, hnc, hcm, hok, fun x hx => (hB x hx).cap, by omega⟩
  have Hok := hid hok
  have Hxl := hid hxl
  obtain ⟨R, ze, hmov⟩ : ∃ R ze, movE xs nm z a = (R, ze) := ⟨_, _, rfl⟩
  have HR1 : Hid (∀ W, Below w0.heap.size w0 W → Calls Try.prog 18 #[.slice A n c, .string nm, .agg #[.int .i64 z, .string a]] W (CopiesE R ze W)) := hid fun W hW => by
    have q := HP.out.move w.heap.size A n c xs nm z a W (HAM.out W hW) lz uz
    rw [hmov] at q
    exact q
  have HRn : Hid (R.length = n) := hid (by have q := movE_len (xs := xs) (s := nm) (z := z) (a := a); rw [hmov] at q; simp only at q; omega)
  have HRo : Hid (∀ x ∈ R, MOk x) := hid (by have q := movE_ok' (s := nm) (z := z) (a := a) Hok.out; rw [hmov] at q; exact q)
  have HRl : Hid (R.length ≤ 300) := hid (by have := HRn.out; omega)
  have HBad : Hid (ze ≠ 0 → R = xs) := hid fun hz => by
    have q := mov_bad (xs := xs) (s := nm) (z := z) (a := a)
    rw [hmov] at q
    exact q hz
  have HGood : Hid (Dif xs → ze = 0 → ∃ t zs, Mov xs nm z a R t zs) := hid fun hd hz => by
    have q := mov_of (s := nm) (z := z) (a := a) hd (by rw [hmov]; exact hz)
    rw [hmov] at q
    exact q
  clear hmov hM hok k1 k3 h hB hf
  go_wp2_with fail
  refine (forward_any z a w2).mono ?_
  rintro e w3 ⟨rfl, hb3⟩
  have b3 := b2.trans (hb3.mono b2.size)
  clear hb3 b2 c0 c1
  go_wp2_with fail
  refine (HR1.out w3 b3).mono ?_
  rintro e w5 hC
  obtain ⟨A1, n1, d1, y1, rfl, a1, e1, hn1, hb5⟩ := hC.arg HRo.out HRl.out
  have HE1 := hid e1
  have b5 := b3.trans (hb5.mono b3.size)
  obtain rfl : n1 = n := hn1.trans HRn.out
  clear hC e1 hn1 hb5 b3 HR1
  by_cases hz : ze = 0
  · subst hz
    have HA1 := hid fun (W : World) (hW : Below w5.heap.size w5 W) => a1.on hW
    have Hb5 := hid b5
    clear a1 HBad
    go_wp2_with fail
    go_loopw [9] (fun iv W => ∃ i : Nat, iv = .int .i64 (i : Int) ∧ i ≤ n1 ∧ Hid (∀ i' k' (hi : i' < xs.length) (hk : k' < xs.length), i' < i → k' < i' → xs[i'].name ≠ xs[k'].name) ∧ Below w5.heap.size w5 W) (fun iv _ => n1 - (intOf iv).toNat)
    case atStart => exact ⟨0, rfl, by omega, hid (fun _ _ _ _ q => absurd q (by omega)), Below.refl _ _⟩
    case round =>
      obtain ⟨i, rfl, hi, HD, hb⟩ := hrel
      by_cases hlt : i < n1
      · have hil : i < xs.length := by have := Hxl.out; omega
        have hii : (i : Int) < (n1 : Int) := by omega
        go_wp2_with fail
        go_loopw [10] (fun kv W => ∃ k : Nat, kv = .int .i64 (k : Int) ∧ k ≤ i ∧ Hid (∀ k' (hk : k' < xs.length), k' < k → xs[i].name ≠ xs[k'].name) ∧ Below w5.heap.size w5 W) (fun kv _ => i - (intOf kv).toNat)
        case atStart => exact ⟨0, rfl, by omega, hid (fun _ _ q => absurd q (by omega)), hb⟩
        case round =>
          clear hb
          obtain ⟨k, rfl, hk, HDk, hb⟩ := hrel
          by_cases hkt : k < i
          · have hkl : k < xs.length := by omega
            have hkn : (k : Int) < (n1 : Int) := by omega
            have hki : (k : Int) < (i : Int) := by omega
            have hM := (HAM.out wr (Hb5.out.trans (hb.mono Hb5.out.size))).rd
            obtain ⟨⟨qb, qo, rfl, hbK, hcell⟩, h8, h9⟩ := hM.2 i hil
            obtain ⟨⟨qb', qo', e', hbK', hcell'⟩, h8', h9'⟩ := hM.2 k hkl
            cases e'
            have p0 := hcell.1
            have s0 := hcell'.1
            clear h8 h9 h8' h9' hM hcell hcell' hbK hbK'
            by_cases hq : xs[i].name = xs[k].name
            · have hqb : (xs[i].name.toList == xs[k].name.toList) = true := by rw [hq]; simp
              clear HDk HD hq
              generalize xs[i].name = x0 at *
              generalize xs[k].name = y0 at *
              have hnn : ((n1 : Int) == (n1 : Int)) = true := by simp
              go_upto_region 12 with fail
              go_quiet (fail)
              go_wp2_with fail
              go_ret
              refine ⟨by first | rfl | simp, B0.trans (Below.mono (B := w0.heap.size) ?_ B0.size)⟩
              exact (Hb5.out.trans (hb.mono Hb5.out.size)).trans ⟨rfl, rfl, rfl, Nat.le_refl _, fun _ _ => rfl⟩
            · have hqb : (xs[i].name.toList == xs[k].name.toList) = false := by rw [beq_eq_false_iff_ne]; exact fun e => hq (Lnm.str_eq.1 e)
              have HDk' : Hid (∀ k' (hk : k' < xs.length), k' < k + 1 → xs[i].name ≠ xs[k'].name) := hid fun k' hk' hlt' => by
                by_cases e : k' = k
                · subst e; exact hq
                · exact HDk.out k' hk' (by omega)
              clear HDk hq
              obtain ⟨x0, hx0⟩ : ∃ x0, xs[i].name = x0 := ⟨_, rfl⟩
              obtain ⟨y0, hy0⟩ : ∃ y0, xs[k].name = y0 := ⟨_, rfl⟩
              rw [hx0] at p0 hqb
              rw [hy0] at s0 hqb
              clear hx0 hy0
              go_upto_region 12 with fail
              go_quiet (fail)
              go_wp2_with fail
              go_roundw
              · exact ⟨k + 1, by go_num, by omega, HDk', hb.trans ⟨rfl, rfl, rfl, Nat.le_refl _, fun _ _ => rfl⟩⟩
              · simp [intOf]; omega
          · obtain rfl : k = i := by omega
            have hki : ¬ (k : Int) < (k : Int) := by omega
            have HD' : Hid (∀ i' k' (hi : i' < xs.length) (hk : k' < xs.length), i' < k + 1 → k' < i' → xs[i'].name ≠ xs[k'].name) := hid fun i' k' hi' hk' hl1 hl2 => by
              by_cases e : i' = k
              · subst e; exact HDk.out k' hk' hl2
              · exact HD.out i' k' hi' hk' (by omega) hl2
            clear HDk HD
            go_wp2_with fail
            go_roundw
            · exact ⟨k + 1, by go_num, by omega, HD', hb⟩
            · simp [intOf]; omega
      · obtain rfl : i = n1 := by omega
        have hii : ¬ (i : Int) < (i : Int) := by omega
        have hdif : Dif xs := fun i' k' hi' hk' hl => HD.out i' k' hi' hk' (by have := Hxl.out; omega) hl
        obtain ⟨t, zs, hm⟩ := HGood.out hdif (by simp)
        have HM := hid hm
        have b6 := Hb5.out.trans (hb.mono Hb5.out.size)
        have Hfy : Hid (findI y1 nm = (t : Int)) := hid (by rw [findI_as HE1.out]; exact findI_some HM.out.find)
        have Hzo : Hid (∀ x ∈ zs, MOk x) := hid fun x hx => HRo.out x (by rw [← HM.out.del] at hx; exact delM_sub hx)
        have Hzl : Hid (zs.length ≤ 300) := hid (by have q := delM_len (xs := R) (at_ := t); rw [HM.out.del] at q; have := HRl.out; omega)
        have Hdy : Hid (delE R nm = (zs, 0)) := hid (by
          unfold delE
          rw [HM.out.find]
          show (delM R _, (0 : Int)) = _
          rw [HM.out.del])
        have Hlt : Hid (t < R.length) := hid (findN_lt HM.out.find).1
        have Hb := hid hb
        have HRf : Hid (∀ W, Below w5.heap.size w5 W → Calls Try.prog 18 #[.slice A1 i d1, .string nm, .agg #[.int .i64 z, .string a]] W (CopiesE R 0 W)) := hid fun W hW => by
          have q := HP.out.move _ A1 i d1 y1 nm z a W (HA1.out W hW) lz uz
          exact q.mono fun e w' hC => by
            have hC := CopiesE.mov hC HE1.out
            rw [HM.out.again] at hC
            exact hC
        clear HD hdif hm HGood hb
        rcases HM.out.mode with hz0 | hz0 | hz0
        · have hl := HM.out.end_ hz0
          subst hz0
          have hq : IntKind.i64.wrap ((i : Int) - 1) = (t : Int) := by rw [IntKind.wrap_i64]; have := HRn.out; omega
          have htt : ((t : Int) == (t : Int)) = true := by simp
          clear hl
          go_wp2_with fail
          refine (HP.out.find _ A1 i d1 y1 nm wr (HA1.out wr Hb.out)).mono ?_
          rintro e w7 ⟨rfl, hb7⟩
          rw [Hfy.out]
          have hb57 := Hb.out.trans (hb7.mono Hb.out.size)
          have b7 := b6.trans (hb7.mono b6.size)
          clear hb7 b6 Hfy
          obtain ⟨c0, c1⟩ := HBox.out w7 b7
          go_wp2_with fail
          refine (HP.out.find _ A1 i d1 y1 a w7 (HA1.out w7 hb57)).mono ?_
          rintro e w8 ⟨rfl, hb8⟩
          generalize findI y1 a = vv at *
          have hb58 := hb57.trans (hb8.mono hb57.size)
          have b8 := b7.trans (hb8.mono b7.size)
          clear hb8 b7 hb57 c0 c1
          go_wp2_with fail
          refine (HP.out.delete _ A1 i d1 y1 nm w8 (HA1.out w8 hb58)).mono ?_
          rintro e w9 hC
          have hC := CopiesE.del hC HE1.out
          rw [Hdy.out] at hC
          obtain ⟨A2, n2, d2, y2, rfl, a2, e2, hn2, hb9⟩ := hC.arg Hzo.out Hzl.out
          have hb59 := hb58.trans (hb9.mono hb58.size)
          have b9 := b8.trans (hb9.mono b8.size)
          have HE2 := hid e2
          clear hC e2 hn2 hb9 b8 hb58
          go_wp2_with fail
          refine (HP.out.delete w.heap.size A i c xs nm w9 (HAM.out w9 b9)).mono ?_
          rintro e wa hC
          rw [HM.out.old] at hC
          obtain ⟨A3, n3, d3, y3, rfl, a3, e3, hn3, hba⟩ := hC.arg Hzo.out Hzl.out
          have hb5a := hb59.trans (hba.mono hb59.size)
          have ba := b9.trans (hba.mono b9.size)
          have a2' := a2.on hba
          have Hsame : Hid (Arp.sameMs y2 y3 = true) := hid (Arw.same_core (HE2.out.trans e3.symm))
          clear hC e3 hn3 hba b9 hb59 a2 HE2
          obtain ⟨c0, c1⟩ := HBox.out wa ba
          go_wp2_with fail
          refine (forward_any _ a wa).mono ?_
          rintro e wb ⟨rfl, hbb⟩
          have hb5b := hb5a.trans (hbb.mono hb5a.size)
          have bb := ba.trans (hbb.mono ba.size)
          have a2 := a2'.on hbb
          have a3' := a3.on hbb
          clear hbb ba hb5a a2' a3 c0 c1
          go_wp2_with fail
          refine (HRf.out wb hb5b).mono ?_
          rintro e wc hC
          obtain ⟨A4, n4, d4, y4, rfl, a4, e4, hn4, hbc⟩ := hC.arg HRo.out HRl.out
          have hb5c := hb5b.trans (hbc.mono hb5b.size)
          have bc := bb.trans (hbc.mono bb.size)
          have a2' := a2.on hbc
          have a3 := a3'.on hbc
          have Hsame4 : Hid (Arp.sameMs y1 y4 = true) := hid (Arw.same_core (HE1.out.trans e4.symm))
          have HSm := hid (Arp.rsamemembers_any wc.heap.size A2 A3 n2 d2 n3 d3 y2 y3 wc (a2'.rd.more a2'.hK) (a3.rd.more a3.hK) (Nat.le_refl _) (by have := a2'.n100; omega))
          rw [Hsame.out] at HSm
          clear hC e4 hn4 hbc bb hb5b a2 a2' a3 a3' Hsame
          obtain ⟨c0, c1⟩ := HBox.out wc bc
          go_wp2_with fail
          refine HSm.out.mono ?_
          rintro e wd ⟨rfl, hbd⟩
          have bd := bc.trans (hbd.mono bc.size)
          have hb5d := hb5c.trans (hbd.mono hb5c.size)
          have a4' := a4.on hbd
          have a1 := HA1.out wd hb5d
          have HSm4 := hid (Arp.rsamemembers_any wd.heap.size A1 A4 i d1 n4 d4 y1 y4 wd (a1.rd.more a1.hK) (a4'.rd.more a4'.hK) (Nat.le_refl _) (by have := a1.n100; omega))
          rw [Hsame4.out] at HSm4
          clear hbd bc hb5c hb5d a4 a4' a1 HSm Hsame4 c0 c1
          go_wp2_with fail
          refine HSm4.out.mono ?_
          rintro e we ⟨rfl, hbe⟩
          have be := bd.trans (hbe.mono bd.size)
          clear hbe bd HSm4
          go_wp2_with fail
          go_ret
          exact ⟨by first | rfl | simp, B0.trans (be.mono B0.size)⟩
        · have hbf := HM.out.before hz0
          subst hz0
          have Han : Hid (findI y1 a = ((t + 1 : Nat) : Int)) := hid (by rw [findI_as HE1.out]; exact findI_some hbf)
          obtain ⟨t1, ht1⟩ : ∃ t1, t + 1 = t1 := ⟨_, rfl⟩
          rw [ht1] at Han
          have hq : IntKind.i64.wrap ((t1 : Int) - 1) = (t : Int) := by rw [IntKind.wrap_i64]; have := HRl.out; have := Hlt.out; omega
          have htt : ((t : Int) == (t : Int)) = true := by simp
          clear hbf ht1
          go_wp2_with fail
          refine (HP.out.find _ A1 i d1 y1 nm wr (HA1.out wr Hb.out)).mono ?_
          rintro e w7 ⟨rfl, hb7⟩
          rw [Hfy.out]
          have hb57 := Hb.out.trans (hb7.mono Hb.out.size)
          have b7 := b6.trans (hb7.mono b6.size)
          clear hb7 b6 Hfy
          obtain ⟨c0, c1⟩ := HBox.out w7 b7
          go_wp2_with fail
          refine (HP.out.find _ A1 i d1 y1 a w7 (HA1.out w7 hb57)).mono ?_
          rintro e w8 ⟨rfl, hb8⟩
          rw [Han.out]
          clear Han
          have hb58 := hb57.trans (hb8.mono hb57.size)
          have b8 := b7.trans (hb8.mono b7.size)
          clear hb8 b7 hb57 c0 c1
          go_wp2_with fail
          refine (HP.out.delete _ A1 i d1 y1 nm w8 (HA1.out w8 hb58)).mono ?_
          rintro e w9 hC
          have hC := CopiesE.del hC HE1.out
          rw [Hdy.out] at hC
          obtain ⟨A2, n2, d2, y2, rfl, a2, e2, hn2, hb9⟩ := hC.arg Hzo.out Hzl.out
          have hb59 := hb58.trans (hb9.mono hb58.size)
          have b9 := b8.trans (hb9.mono b8.size)
          have HE2 := hid e2
          clear hC e2 hn2 hb9 b8 hb58
          go_wp2_with fail
          refine (HP.out.delete w.heap.size A i c xs nm w9 (HAM.out w9 b9)).mono ?_
          rintro e wa hC
          rw [HM.out.old] at hC
          obtain ⟨A3, n3, d3, y3, rfl, a3, e3, hn3, hba⟩ := hC.arg Hzo.out Hzl.out
          have hb5a := hb59.trans (hba.mono hb59.size)
          have ba := b9.trans (hba.mono b9.size)
          have a2' := a2.on hba
          have Hsame : Hid (Arp.sameMs y2 y3 = true) := hid (Arw.same_core (HE2.out.trans e3.symm))
          clear hC e3 hn3 hba b9 hb59 a2 HE2
          obtain ⟨c0, c1⟩ := HBox.out wa ba
          go_wp2_with fail
          refine (forward_any _ a wa).mono ?_
          rintro e wb ⟨rfl, hbb⟩
          have hb5b := hb5a.trans (hbb.mono hb5a.size)
          have bb := ba.trans (hbb.mono ba.size)
          have a2 := a2'.on hbb
          have a3' := a3.on hbb
          clear hbb ba hb5a a2' a3 c0 c1
          go_wp2_with fail
          refine (HRf.out wb hb5b).mono ?_
          rintro e wc hC
          obtain ⟨A4, n4, d4, y4, rfl, a4, e4, hn4, hbc⟩ := hC.arg HRo.out HRl.out
          have hb5c := hb5b.trans (hbc.mono hb5b.size)
          have bc := bb.trans (hbc.mono bb.size)
          have a2' := a2.on hbc
          have a3 := a3'.on hbc
          have Hsame4 : Hid (Arp.sameMs y1 y4 = true) := hid (Arw.same_core (HE1.out.trans e4.symm))
          have HSm := hid (Arp.rsamemembers_any wc.heap.size A2 A3 n2 d2 n3 d3 y2 y3 wc (a2'.rd.more a2'.hK) (a3.rd.more a3.hK) (Nat.le_refl _) (by have := a2'.n100; omega))
          rw [Hsame.out] at HSm
          clear hC e4 hn4 hbc bb hb5b a2 a2' a3 a3' Hsame
          obtain ⟨c0, c1⟩ := HBox.out wc bc
          go_wp2_with fail
          refine HSm.out.mono ?_
          rintro e wd ⟨rfl, hbd⟩
          have bd := bc.trans (hbd.mono bc.size)
          have hb5d := hb5c.trans (hbd.mono hb5c.size)
          have a4' := a4.on hbd
          have a1 := HA1.out wd hb5d
          have HSm4 := hid (Arp.rsamemembers_any wd.heap.size A1 A4 i d1 n4 d4 y1 y4 wd (a1.rd.more a1.hK) (a4'.rd.more a4'.hK) (Nat.le_refl _) (by have := a1.n100; omega))
          rw [Hsame4.out] at HSm4
          clear hbd bc hb5c hb5d a4 a4' a1 HSm Hsame4 c0 c1
          go_wp2_with fail
          refine HSm4.out.mono ?_
          rintro e we ⟨rfl, hbe⟩
          have be := bd.trans (hbe.mono bd.size)
          clear hbe bd HSm4
          go_wp2_with fail
          go_ret
          exact ⟨by first | rfl | simp, B0.trans (be.mono B0.size)⟩
        · obtain ⟨j, haf, htj⟩ := HM.out.after hz0
          subst hz0
          have Han : Hid (findI y1 a = (j : Int)) := hid (by rw [findI_as HE1.out]; exact findI_some haf)
          have hq : IntKind.i64.wrap ((j : Int) + 1) = (t : Int) := by rw [IntKind.wrap_i64]; have := HRl.out; have := Hlt.out; omega
          have htt : ((t : Int) == (t : Int)) = true := by simp
          clear haf htj
          go_wp2_with fail
          refine (HP.out.find _ A1 i d1 y1 nm wr (HA1.out wr Hb.out)).mono ?_
          rintro e w7 ⟨rfl, hb7⟩
          rw [Hfy.out]
          have hb57 := Hb.out.trans (hb7.mono Hb.out.size)
          have b7 := b6.trans (hb7.mono b6.size)
          clear hb7 b6 Hfy
          obtain ⟨c0, c1⟩ := HBox.out w7 b7
          go_wp2_with fail
          refine (HP.out.find _ A1 i d1 y1 a w7 (HA1.out w7 hb57)).mono ?_
          rintro e w8 ⟨rfl, hb8⟩
          rw [Han.out]
          clear Han
          have hb58 := hb57.trans (hb8.mono hb57.size)
          have b8 := b7.trans (hb8.mono b7.size)
          clear hb8 b7 hb57 c0 c1
          go_wp2_with fail
          refine (HP.out.delete _ A1 i d1 y1 nm w8 (HA1.out w8 hb58)).mono ?_
          rintro e w9 hC
          have hC := CopiesE.del hC HE1.out
          rw [Hdy.out] at hC
          obtain ⟨A2, n2, d2, y2, rfl, a2, e2, hn2, hb9⟩ := hC.arg Hzo.out Hzl.out
          have hb59 := hb58.trans (hb9.mono hb58.size)
          have b9 := b8.trans (hb9.mono b8.size)
          have HE2 := hid e2
          clear hC e2 hn2 hb9 b8 hb58
          go_wp2_with fail
          refine (HP.out.delete w.heap.size A i c xs nm w9 (HAM.out w9 b9)).mono ?_
          rintro e wa hC
          rw [HM.out.old] at hC
          obtain ⟨A3, n3, d3, y3, rfl, a3, e3, hn3, hba⟩ := hC.arg Hzo.out Hzl.out
          have hb5a := hb59.trans (hba.mono hb59.size)
          have ba := b9.trans (hba.mono b9.size)
          have a2' := a2.on hba
          have Hsame : Hid (Arp.sameMs y2 y3 = true) := hid (Arw.same_core (HE2.out.trans e3.symm))
          clear hC e3 hn3 hba b9 hb59 a2 HE2
          obtain ⟨c0, c1⟩ := HBox.out wa ba
          go_wp2_with fail
          refine (forward_any _ a wa).mono ?_
          rintro e wb ⟨rfl, hbb⟩
          have hb5b := hb5a.trans (hbb.mono hb5a.size)
          have bb := ba.trans (hbb.mono ba.size)
          have a2 := a2'.on hbb
          have a3' := a3.on hbb
          clear hbb ba hb5a a2' a3 c0 c1
          go_wp2_with fail
          refine (HRf.out wb hb5b).mono ?_
          rintro e wc hC
          obtain ⟨A4, n4, d4, y4, rfl, a4, e4, hn4, hbc⟩ := hC.arg HRo.out HRl.out
          have hb5c := hb5b.trans (hbc.mono hb5b.size)
          have bc := bb.trans (hbc.mono bb.size)
          have a2' := a2.on hbc
          have a3 := a3'.on hbc
          have Hsame4 : Hid (Arp.sameMs y1 y4 = true) := hid (Arw.same_core (HE1.out.trans e4.symm))
          have HSm := hid (Arp.rsamemembers_any wc.heap.size A2 A3 n2 d2 n3 d3 y2 y3 wc (a2'.rd.more a2'.hK) (a3.rd.more a3.hK) (Nat.le_refl _) (by have := a2'.n100; omega))
          rw [Hsame.out] at HSm
          clear hC e4 hn4 hbc bb hb5b a2 a2' a3 a3' Hsame
          obtain ⟨c0, c1⟩ := HBox.out wc bc
          go_wp2_with fail
          refine HSm.out.mono ?_
          rintro e wd ⟨rfl, hbd⟩
          have bd := bc.trans (hbd.mono bc.size)
          have hb5d := hb5c.trans (hbd.mono hb5c.size)
          have a4' := a4.on hbd
          have a1 := HA1.out wd hb5d
          have HSm4 := hid (Arp.rsamemembers_any wd.heap.size A1 A4 i d1 n4 d4 y1 y4 wd (a1.rd.more a1.hK) (a4'.rd.more a4'.hK) (Nat.le_refl _) (by have := a1.n100; omega))
          rw [Hsame4.out] at HSm4
          clear hbd bc hb5c hb5d a4 a4' a1 HSm Hsame4 c0 c1
          go_wp2_with fail
          refine HSm4.out.mono ?_
          rintro e we ⟨rfl, hbe⟩
          have be := bd.trans (hbe.mono bd.size)
          clear hbe bd HSm4
          go_wp2_with fail
          go_ret
          exact ⟨by first | rfl | simp, B0.trans (be.mono B0.size)⟩
  · have hzb : (ze != 0) = true := by simpa using hz
    have hR := HBad.out hz
    have hsame : Arp.sameMs y1 xs = true := Arw.same_core (by rw [HE1.out, hR])
    have HSm := hid (Arp.rsamemembers_any w5.heap.size A1 A n1 d1 n1 c y1 xs w5 a1.rd ((HAM.out w5 b5).rd.more (Nat.le_trans B0.size b5.size)) (Nat.le_refl _) (by have := a1.n100; omega))
    rw [hsame] at HSm
    clear hsame hR hz HBad HGood a1
    go_wp2_with fail
    refine HSm.out.mono ?_
    rintro e w6 ⟨rfl, hb6⟩
    have b6 := b5.trans (hb6.mono b5.size)
    clear hb6 HSm b5
    go_wp2_with fail
    go_ret
    exact ⟨rfl, B0.trans (b6.mono B0.size)⟩
end Go.Proofs.Ytijggpahijhpeaa.Edt
