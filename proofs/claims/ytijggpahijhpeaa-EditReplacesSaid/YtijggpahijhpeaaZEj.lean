/-
  edit: the laws' awake, from the program's contracts.
-/
import Derived.Test.YtijggpahijhpeaaZEi
namespace Go.Proofs.Ytijggpahijhpeaa.Edt
open Go.RowKit Go.Proofs Go.Proofs.Ytijggpahijhpeaa.Byt
open Go.Proofs.Ytijggpahijhpeaa.Arp (Mem RdM OwnM mcells)
open Go.Proofs.Ytijggpahijhpeaa.Arw (core MOk)

theorem CopiesE.as {xs ys : List Mem} {z : Int} {w w' : World} {e : Ending} (h : CopiesE xs z w e w') (hc : xs.map core = ys.map core) : CopiesE ys z w e w' := by
  obtain ⟨A, n, c, zs, rfl, hO, hD, hC, hs, hb⟩ := h
  exact ⟨A, n, c, zs, rfl, hO, hD, hC.trans hc, hs, hb⟩
theorem CopiesO.as {xs ys : List Mem} {w w' : World} {e : Ending} (h : CopiesO xs w e w') (hc : xs.map core = ys.map core) : CopiesO ys w e w' := by
  obtain ⟨A, n, c, zs, rfl, hO, hD, hC, hs, hb⟩ := h
  exact ⟨A, n, c, zs, rfl, hO, hD, hC.trans hc, hs, hb⟩
theorem CopiesE.rep {xs ys : List Mem} {m : Mem} {z : Int} {a : ByteArray} {w w' : World} {e : Ending} (h : CopiesE (repE xs m z a).1 (repE xs m z a).2 w e w') (hc : xs.map core = ys.map core) : CopiesE (repE ys m z a).1 (repE ys m z a).2 w e w' := by
  have h1 := repE_core xs m z a
  have h2 := repE_core ys m z a
  rw [hc] at h1
  have h3 := h.as (h1.1.trans h2.1.symm)
  rw [h1.2.trans h2.2.symm] at h3
  exact h3
theorem CopiesE.del {xs ys : List Mem} {s : ByteArray} {w w' : World} {e : Ending} (h : CopiesE (delE xs s).1 (delE xs s).2 w e w') (hc : xs.map core = ys.map core) : CopiesE (delE ys s).1 (delE ys s).2 w e w' := by
  have h1 := delE_core xs s
  have h2 := delE_core ys s
  rw [hc] at h1
  have h3 := h.as (h1.1.trans h2.1.symm)
  rw [h1.2.trans h2.2.symm] at h3
  exact h3
theorem CopiesE.mov {xs ys : List Mem} {s : ByteArray} {z : Int} {a : ByteArray} {w w' : World} {e : Ending} (h : CopiesE (movE xs s z a).1 (movE xs s z a).2 w e w') (hc : xs.map core = ys.map core) : CopiesE (movE ys s z a).1 (movE ys s z a).2 w e w' := by
  have h1 := movE_core xs s z a
  have h2 := movE_core ys s z a
  rw [hc] at h1
  have h3 := h.as (h1.1.trans h2.1.symm)
  rw [h1.2.trans h2.2.symm] at h3
  exact h3
theorem findI_as {xs ys : List Mem} (hc : xs.map core = ys.map core) (s : ByteArray) : findI xs s = findI ys s := by rw [← findI_core xs, hc, findI_core]
theorem namesL_as {xs ys : List Mem} (hc : xs.map core = ys.map core) : namesL xs = namesL ys := by
  have h : ∀ l : List Mem, (l.map core).map (·.name) = namesL l := fun l => by rw [List.map_map]; rfl
  rw [← h xs, hc, h]

/-- The members of awake. -/
def sA : ByteArray := ⟨#[97]⟩
def sB : ByteArray := ⟨#[98]⟩
def sC : ByteArray := ⟨#[99]⟩
def mk (nm : ByteArray) (t : Int) : Mem := ⟨nm, t, 0, 0, 0, none, 0, 0, []⟩
theorem mk_ok {nm : ByteArray} {t : Int} (h : nm.size ≤ 300) (ht : t < 9223372036854775808) : MOk (mk nm t) := ⟨h, by show (0 : Nat) ≤ 20000; omega, ht, by show (0 : Int) < _; omega, by show (0 : Int) < _; omega, by show (0 : Int) < _; omega⟩
theorem ab : ¬ sA = sB := by decide
theorem ac : ¬ sA = sC := by decide
theorem bc : ¬ sB = sC := by decide
theorem ba : ¬ sB = sA := by decide
theorem ca : ¬ sC = sA := by decide
theorem cb : ¬ sC = sB := by decide
set_option linter.unusedSimpArgs false in
theorem aw1 : repE [mk sA 0, mk sB 0] (mk sC 0) 1 sB = ([mk sA 0, mk sC 0, mk sB 0], 0) := by simp [repE, plN, findN, insM, delM, mk, ab, ac, bc, ba, ca, cb]
set_option linter.unusedSimpArgs false in
theorem aw2 : repE [mk sA 0, mk sC 0, mk sB 0] (mk sB 7) 0 ⟨#[]⟩ = ([mk sA 0, mk sC 0, mk sB 7], 0) := by simp [repE, plN, findN, insM, delM, mk, ab, ac, bc, ba, ca, cb]
set_option linter.unusedSimpArgs false in
theorem aw3 : movE [mk sA 0, mk sC 0, mk sB 7] sB 2 sA = ([mk sA 0, mk sB 7, mk sC 0], 0) := by simp [movE, plN, findN, insM, delM, mk, ab, ac, bc, ba, ca, cb]
set_option linter.unusedSimpArgs false in
theorem aw4 : delE [mk sA 0, mk sB 0] ⟨#[120]⟩ = ([mk sA 0, mk sB 0], 10) := by
  have h1 : ¬ sA = ⟨#[120]⟩ := by decide
  have h2 : ¬ sB = ⟨#[120]⟩ := by decide
  simp [delE, findN, mk, h1, h2]
set_option linter.unusedSimpArgs false in
theorem aw5 : movE [mk sA 0, mk sB 0] sA 1 sA = ([mk sA 0, mk sB 0], 11) := by simp [movE, plN, findN, insM, delM, mk, ab, ac, bc, ba, ca, cb]
theorem aw6 : findI [mk sA 0, mk sB 0] sB = 1 := by simp [findI, findN, mk, ab]
theorem okL {a b : Mem} (ha : MOk a) (hb : MOk b) : ∀ x ∈ [a, b], MOk x := fun x hx => by
  rcases List.mem_cons.1 hx with rfl | hx
  · exact ha
  · rw [List.mem_singleton.1 hx]; exact hb
theorem okL3 {a b c : Mem} (ha : MOk a) (hb : MOk b) (hc : MOk c) : ∀ x ∈ [a, b, c], MOk x := fun x hx => by
  rcases List.mem_cons.1 hx with rfl | hx
  · exact ha
  · exact okL hb hc x hx
theorem kA : MOk (mk sA 0) := mk_ok (by decide) (by omega)
theorem kB : MOk (mk sB 0) := mk_ok (by decide) (by omega)
theorem kC : MOk (mk sC 0) := mk_ok (by decide) (by omega)
theorem kB7 : MOk (mk sB 7) := mk_ok (by decide) (by omega)
theorem mk_arg {w : World} {K : Nat} (hK : K ≤ w.heap.size) {nm : ByteArray} {t : Int} (h : MOk (mk nm t)) : ArgE w K (mk nm t) := ⟨h, Byt.Rd.nil _ _ _, hK, Nat.le_refl _, by show (0 : Nat) ≤ _; omega⟩

set_option linter.unusedSimpArgs false in
set_option maxRecDepth 100000 in
set_option maxHeartbeats 4000000 in
theorem awake10_any (P : PC10) (w : World) : Calls Try.prog 8 #[] w fun e w' => e = .returned (.bool true) ∧ Below w.heap.size w w' := by
  have HP := hid P
  clear P
  have hba := (Below.refl w.heap.size w).alloc (Nat.le_refl _) (.cells #[.string ⟨#[97]⟩, .int .i64 0, .int .i64 0, .int .i64 0, .int .i64 0, .slice none 0 0, .string ⟨#[98]⟩, .int .i64 0, .int .i64 0, .int .i64 0, .int .i64 0, .slice none 0 0] 25)
  have hrow := heap_alloc_new w (.cells #[.string ⟨#[97]⟩, .int .i64 0, .int .i64 0, .int .i64 0, .int .i64 0, .slice none 0 0, .string ⟨#[98]⟩, .int .i64 0, .int .i64 0, .int .i64 0, .int .i64 0, .slice none 0 0] 25)
  have hsa := World.size_alloc w (.cells #[.string ⟨#[97]⟩, .int .i64 0, .int .i64 0, .int .i64 0, .int .i64 0, .slice none 0 0, .string ⟨#[98]⟩, .int .i64 0, .int .i64 0, .int .i64 0, .int .i64 0, .slice none 0 0] 25)
  go_enter Try.func8, Try.ntmps8
  go_upto_region 2 with fail
  generalize w.alloc (.cells #[.string ⟨#[97]⟩, .int .i64 0, .int .i64 0, .int .i64 0, .int .i64 0, .slice none 0 0, .string ⟨#[98]⟩, .int .i64 0, .int .i64 0, .int .i64 0, .int .i64 0, .slice none 0 0] 25) = w0 at *
  obtain ⟨g, hg⟩ : ∃ g, w.heap.size = g := ⟨_, rfl⟩
  rw [hg] at hrow hsa
  try rw [hg]
  have hL : RdM w0 (g + 1) (some ⟨g, 0, none⟩) 2 [mk sA 0, mk sB 0] := Arw.rdM_row hrow rfl (by omega) (fun x hx => by
    rcases List.mem_cons.1 hx with rfl | hx
    · exact ⟨Rd.nil _ _ _, by show (0 : Nat) ≤ _; omega⟩
    · rw [List.mem_singleton.1 hx]; exact ⟨Rd.nil _ _ _, by show (0 : Nat) ≤ _; omega⟩)
  have aL : ArgM w0 (g + 1) (some ⟨g, 0, none⟩) 2 2 [mk sA 0, mk sB 0] := ⟨hL, by omega, by omega, by unfold maxLen; omega, okL kA kB, fun x hx => by
    rcases List.mem_cons.1 hx with rfl | hx
    · exact ⟨Nat.le_refl _, by show (0 : Nat) ≤ _; omega⟩
    · rw [List.mem_singleton.1 hx]; exact ⟨Nat.le_refl _, by show (0 : Nat) ≤ _; omega⟩, by omega⟩
  have HG := hid hg
  have HB := hid hba
  clear hL hrow hsa hba hg
  go_wp2_with fail
  refine (HP.out.replace _ _ 2 2 _ (mk sC 0) 1 sB w0 aL (mk_arg aL.hK kC) (by omega) (by omega)).mono ?_
  rintro e w1 hC
  rw [aw1] at hC
  obtain ⟨A1, n1, c1, y1, rfl, a1, e1, hn1, hb1⟩ := hC.arg (okL3 kA kC kB) (by decide)
  obtain rfl : n1 = 3 := hn1
  have HE1 := hid e1
  have aL1 := aL.on hb1
  have HB1 := hid (HB.out.trans (hb1.mono HB.out.size))
  clear hC e1 hb1 aL HB
  go_wp2_with fail
  refine (HP.out.replace _ _ 3 _ _ (mk sB 7) 0 ⟨#[]⟩ w1 a1 (mk_arg a1.hK kB7) (by omega) (by omega)).mono ?_
  rintro e w2 hC
  have hC := hC.rep HE1.out
  rw [aw2] at hC
  obtain ⟨A2, n2, c2, y2, rfl, a2, e2, hn2, hb2⟩ := hC.arg (okL3 kA kC kB7) (by decide)
  obtain rfl : n2 = 3 := hn2
  have HE2 := hid e2
  have aL2 := aL1.on hb2
  have a1' := a1.on hb2
  have HB2 := hid (HB1.out.trans (hb2.mono HB1.out.size))
  clear hC e2 hb2 aL1 HB1 a1
  go_wp2_with fail
  refine (HP.out.move _ _ 3 _ _ sB 2 sA w2 a2 (by omega) (by omega)).mono ?_
  rintro e w3 hC
  have hC := hC.mov HE2.out
  rw [aw3] at hC
  obtain ⟨A3, n3, c3, y3, rfl, a3, e3, hn3, hb3⟩ := hC.arg (okL3 kA kB7 kC) (by decide)
  obtain rfl : n3 = 3 := hn3
  have HE3 := hid e3
  have aL3 := aL2.on hb3
  have a1'' := a1'.on hb3
  have a2' := a2.on hb3
  have HB3 := hid (HB2.out.trans (hb3.mono HB2.out.size))
  clear hC e3 hb3 aL2 HB2 a1' a2
  go_wp2_with fail
  refine (HP.out.delete _ _ 2 2 _ ⟨#[120]⟩ w3 aL3).mono ?_
  rintro e w4 hC
  rw [aw4] at hC
  obtain ⟨A4, n4, c4, y4, rfl, _, _, _, hb4⟩ := hC.arg (okL kA kB) (by decide)
  have aL4 := aL3.on hb4
  have a1 := a1''.on hb4
  have a2 := a2'.on hb4
  have a3' := a3.on hb4
  have HB4 := hid (HB3.out.trans (hb4.mono HB3.out.size))
  clear hC hb4 aL3 HB3 a1'' a2' a3
  go_wp2_with fail
  refine (HP.out.move _ _ 2 2 _ sA 1 sA w4 aL4 (by omega) (by omega)).mono ?_
  rintro e w5 hC
  rw [aw5] at hC
  obtain ⟨A5, n5, c5, y5, rfl, _, _, _, hb5⟩ := hC.arg (okL kA kB) (by decide)
  have aL5 := aL4.on hb5
  have a1' := a1.on hb5
  have a2' := a2.on hb5
  have a3 := a3'.on hb5
  have HB5 := hid (HB4.out.trans (hb5.mono HB4.out.size))
  clear hC hb5 aL4 HB4 a1 a2 a3'
  go_wp2_with fail
  refine (HP.out.list _ _ 3 _ _ w5 a1').mono ?_
  rintro e w6 hL
  rw [show ListP y1 = ListP [mk sA 0, mk sC 0, mk sB 0] from by unfold ListP; rw [namesL_as HE1.out]] at hL
  obtain ⟨A6, n6, c6, rfl, o6, hb6⟩ := hL
  obtain ⟨_, _, q6, r6, _, _⟩ := o6.reads
  injection q6 with q61 _ q63
  subst q61 q63
  obtain rfl : n6 = 3 := o6.1.symm
  have hb06 := HB5.out.trans (hb6.mono HB5.out.size)
  have sL := Sls.Rd.lit w6 [sA, sC, sB] #[.string ⟨#[97]⟩, .string ⟨#[99]⟩, .string ⟨#[98]⟩] rfl 3 rfl
  have hbS := (Below.refl w6.heap.size w6).alloc (Nat.le_refl _) (.cells #[.string ⟨#[97]⟩, .string ⟨#[99]⟩, .string ⟨#[98]⟩] 9)
  have hbS' := hb6.trans (hbS.mono hb6.size)
  have HT := hid (Lnm.texts_any w6.heap.size _ A6 _ 3 c6 3 3 _ _ _ (r6.below hbS) sL (by omega))
  have het : Lnm.eqs (namesL [mk sA 0, mk sC 0, mk sB 0]) [sA, sC, sB] = true := Lnm.eqs_iff.2 rfl
  rw [het] at HT
  have HB6 := hid (hb06.trans (hbS.mono hb06.size))
  have aL6 := aL5.on hbS'
  have a2 := a2'.on hbS'
  have a3' := a3.on hbS'
  clear hb6 hbS hb06 hbS' het sL o6 r6 HB5 aL5 a2' a3 a1'
  go_wp2_with fail
  refine HT.out.mono ?_
  rintro e w7 ⟨rfl, m7, hw7⟩
  have hb7 := Dec.below_drewN (K := (w6.alloc (.cells #[.string ⟨#[97]⟩, .string ⟨#[99]⟩, .string ⟨#[98]⟩] 9)).heap.size) (w6.alloc (.cells #[.string ⟨#[97]⟩, .string ⟨#[99]⟩, .string ⟨#[98]⟩] 9)) m7
  rw [← hw7] at hb7
  have HB7 := hid (HB6.out.trans (hb7.mono HB6.out.size))
  have aL7 := aL6.on hb7
  have a2' := a2.on hb7
  have a3 := a3'.on hb7
  have hl2 : y2.length = 3 := a2'.rd.1
  have ht2 : (y2[2]'(by omega)).time = 7 := by
    have h1 : (y2.map core)[2]'(by rw [List.length_map]; omega) = mk sB 7 := by
      have h2 : (y2.map core)[2]? = some (mk sB 7) := by rw [HE2.out]; rfl
      exact (List.getElem?_eq_some_iff.1 h2).2
    rw [List.getElem_map] at h1
    exact congrArg Mem.time h1
  obtain ⟨⟨b2, o2, rfl, hbK, hcell⟩, hx1, hx2⟩ := a2'.rd.2 2 (by omega)
  have g2 := hcell.2.1
  rw [ht2] at g2
  have g2' : w7.cell? ⟨b2, o2 + 12 + 1, none⟩ = some (.int .i64 7) := g2
  clear hw7 hb7 HB6 aL6 a2 a3' hcell hx1 hx2 hl2 ht2 HT g2 hbK a2'
  go_wp2_with fail
  refine (HP.out.list _ _ 3 _ _ w7 a3).mono ?_
  rintro e w8 hL
  rw [show ListP y3 = ListP [mk sA 0, mk sB 7, mk sC 0] from by unfold ListP; rw [namesL_as HE3.out]] at hL
  obtain ⟨A8, n8, c8, rfl, o8, hb8⟩ := hL
  obtain ⟨_, _, q8, r8, _, _⟩ := o8.reads
  injection q8 with q81 _ q83
  subst q81 q83
  obtain rfl : n8 = 3 := o8.1.symm
  have hb08 := HB7.out.trans (hb8.mono HB7.out.size)
  have sL := Sls.Rd.lit w8 [sA, sB, sC] #[.string ⟨#[97]⟩, .string ⟨#[98]⟩, .string ⟨#[99]⟩] rfl 3 rfl
  have hbS := (Below.refl w8.heap.size w8).alloc (Nat.le_refl _) (.cells #[.string ⟨#[97]⟩, .string ⟨#[98]⟩, .string ⟨#[99]⟩] 9)
  have hbS' := hb8.trans (hbS.mono hb8.size)
  have HT := hid (Lnm.texts_any w8.heap.size _ A8 _ 3 c8 3 3 _ _ _ (r8.below hbS) sL (by omega))
  have het : Lnm.eqs (namesL [mk sA 0, mk sB 7, mk sC 0]) [sA, sB, sC] = true := Lnm.eqs_iff.2 rfl
  rw [het] at HT
  have HB8 := hid (hb08.trans (hbS.mono hb08.size))
  have aL8 := aL7.on hbS'
  clear hb8 hbS hb08 hbS' het sL o8 r8 HB7 aL7 a3 g2'
  go_wp2_with fail
  refine HT.out.mono ?_
  rintro e w9 ⟨rfl, m9, hw9⟩
  have hb9 := Dec.below_drewN (K := (w8.alloc (.cells #[.string ⟨#[97]⟩, .string ⟨#[98]⟩, .string ⟨#[99]⟩] 9)).heap.size) (w8.alloc (.cells #[.string ⟨#[97]⟩, .string ⟨#[98]⟩, .string ⟨#[99]⟩] 9)) m9
  rw [← hw9] at hb9
  have HB9 := hid (HB8.out.trans (hb9.mono HB8.out.size))
  have aL9 := aL8.on hb9
  clear hw9 hb9 HB8 aL8 HT
  go_wp2_with fail
  refine (HP.out.find _ _ 2 2 _ sB w9 aL9).mono ?_
  rintro e wa ⟨rfl, hba⟩
  rw [aw6]
  have HBa := HB9.out.trans (hba.mono HB9.out.size)
  clear aL9 hba HB9
  go_wp2_with fail
  go_ret
  exact ⟨rfl, HBa⟩
end Go.Proofs.Ytijggpahijhpeaa.Edt
