/-
  wanted: nil receivers, examples, awake.
-/
import Derived.Test.YtbcjbembhajgcaaQi
namespace Go.Proofs.Ytbcjbembhajgcaa.Wnt
open Go.RowKit Go.Proofs Go.Proofs.Ytbcjbembhajgcaa.Byt
open Go.Proofs.Ytbcjbembhajgcaa.Tab (bl bl_iff bl_irrefl bl_trans bl_total putN mem_put Asc asc_put asc_eq tl_inj)

theorem add_nil (A : Option Addr) (n c : Nat) (w : World) : Calls Try.prog 10 #[.pointer none, .slice A n c] w fun e w' => e = .returned (.int .i64 0) ∧ w' = w := by
  go_enter Try.func10, Try.ntmps10
  go_wp2_with fail
  go_ret
  exact ⟨rfl, rfl⟩
theorem len_nil (w : World) : Calls Try.prog 12 #[.pointer none] w fun e w' => e = .returned (.int .i64 0) ∧ w' = w := by
  go_enter Try.func12, Try.ntmps12
  go_wp2_with fail
  go_ret
  exact ⟨rfl, rfl⟩
theorem seen_nil (x : ByteArray) (w : World) : Calls Try.prog 13 #[.pointer none, .string x] w fun e w' => e = .returned (.bool false) ∧ w' = w := by
  go_enter Try.func13, Try.ntmps13
  go_wp2_with fail
  go_ret
  exact ⟨rfl, rfl⟩
def bA : ByteArray := ⟨#[97]⟩
def bB : ByteArray := ⟨#[98]⟩
def bC : ByteArray := ⟨#[99]⟩
theorem less_ab : bl bA bB = true := by kernel_rfl
theorem less_ba : bl bB bA = false := by kernel_rfl
theorem ex1 : addA ([], []) [bB, bA, bB] = ([bA, bB], [bB, bA]) := by kernel_rfl
theorem ex2 : addA ([bB], [bB, bA]) [bA] = ([bB], [bB, bA]) := by kernel_rfl
theorem ex3 : hasN [bB, bA] bA = true := by kernel_rfl
theorem ex4 : hasN [bB, bA] bC = false := by kernel_rfl

/-- Behind a call on a worklist that is alone. -/
def LsP (K T : Nat) (ws sn : List ByteArray) (w w' : World) : Prop := ∃ F, Lst w' K F T ws sn ∧ Below K w w'
theorem LstP.ls {K T : Nat} {F : Nat → Prop} {ws sn : List ByteArray} {w w' : World} (h : LstP K F T ws sn w w') : LsP K T ws sn w w' := ⟨_, h.1, h.2.1⟩
theorem Lst.fr {w : World} {K T : Nat} {F : Nat → Prop} {ws sn : List ByteArray} (h : Lst w K F T ws sn) : (∀ g, F g → K ≤ g ∧ g < w.heap.size) ∧ F T := by
  obtain ⟨m, h⟩ := h.bd
  exact ⟨h.1, h.2.1⟩
theorem Lst.alloc {w : World} {K T : Nat} {F : Nat → Prop} {ws sn : List ByteArray} (h : Lst w K F T ws sn) (o : Obj) : Lst (w.alloc o) K F T ws sn :=
  h.stay (by simp) fun g hg => Below.heap_alloc w o g (h.fr.1 g hg).2
theorem Lst.le {w : World} {K T : Nat} {F : Nat → Prop} {ws sn : List ByteArray} (h : Lst w K F T ws sn) : K ≤ w.heap.size := by
  have := h.fr.1 T h.fr.2
  omega
/-- Adding names of a literal that has just been laid. -/
theorem add_lit {w : World} {K T : Nat} {F : Nat → Prop} {ws sn : List ByteArray} (h : Lst w K F T ws sn) (xs : List ByteArray) (cs : Array Value) (hcs : cs = (Sls.enc xs).toArray) (n : Nat) (hl : xs.length = n) (hn : ws.length + n ≤ 100000) (hs : sn.length + n ≤ 100000) :
    Calls Try.prog 10 #[.pointer (some ⟨T, 0, none⟩), .slice (some ⟨w.heap.size, 0, none⟩) n n] (w.alloc (.cells cs 9)) fun e w' => e = .returned (.int .i64 (((addA (ws, sn) xs).2.length : Int) - (sn.length : Int))) ∧ LsP K T (addA (ws, sn) xs).1 (addA (ws, sn) xs).2 w w' := by
  refine (ladd_any (h.alloc _) (Sls.Rd.lit w xs cs hcs n hl) (by simp) (fun b o e _ hF => ?_) hn hs).mono ?_
  · injection e with e
    injection e with e _ _
    subst e
    have := (h.fr.1 _ hF).2
    omega
  · rintro e w' ⟨rfl, h1, h2⟩
    exact ⟨rfl, _, h1, ((Below.refl K w).alloc h.le _).trans h2.1⟩

set_option linter.unusedSimpArgs false in
set_option maxRecDepth 100000 in
set_option maxHeartbeats 1600000 in
theorem awake15_any (w : World) : Calls Try.prog 6 #[] w fun e w' => e = .returned (.bool true) ∧ Below w.heap.size w w' := by
  have hQ : Qr (w.alloc (.cells #[.map none, .slice none 0 0] 29)) w.heap.size (.map none) (.slice none 0 0) := heap_alloc_new w _
  have HL0 := hid (Lst.zero hQ)
  have HB0 := hid ((Below.refl w.heap.size w).alloc (Nat.le_refl _) (.cells #[.map none, .slice none 0 0] 29))
  clear hQ
  go_enter Try.func6, Try.ntmps6
  go_upto_region 3 with fail
  obtain ⟨T, hT⟩ : ∃ T, w.heap.size = T := ⟨_, rfl⟩
  rw [hT] at HL0 HB0
  rw [hT]
  have HT := hid hT
  clear hT
  generalize w.alloc (.cells #[.map none, .slice none 0 0] 29) = w0 at *
  have HA1 : Hid (Calls Try.prog 10 #[.pointer (some ⟨T, 0, none⟩), .slice (some ⟨w0.heap.size, 0, none⟩) 3 3] (w0.alloc (.cells #[.string ⟨#[98]⟩, .string ⟨#[97]⟩, .string ⟨#[98]⟩] 9)) fun e w' => e = .returned (.int .i64 2) ∧ LsP T T [bA, bB] [bB, bA] w0 w') := hid (by
    have h := add_lit HL0.out [bB, bA, bB] #[.string ⟨#[98]⟩, .string ⟨#[97]⟩, .string ⟨#[98]⟩] rfl 3 rfl (by decide) (by decide)
    rw [ex1] at h
    exact h)
  go_upto_region 4 with (go_at_call 10; refine HA1.out.mono ?_; rintro e w1 ⟨rfl, F1, hl1, hb1⟩)
  have HL1 := hid hl1
  have HB1 := hid (HB0.out.trans hb1)
  have HT1 : Hid (Calls Try.prog 8 #[.pointer (some ⟨T, 0, none⟩)] w1 fun e w' => e = .returned (.tuple #[.string ⟨#[97]⟩, .bool true]) ∧ LsP T T [bB] [bB, bA] w1 w') := hid ((ltake_any hl1 (by decide)).mono fun e w' h => ⟨h.1, h.2.ls⟩)
  clear HA1 HL0 HB0 hl1 hb1
  go_upto_region 5 with (go_at_call 8; refine HT1.out.mono ?_; rintro e w2 ⟨rfl, F2, hl2, hb2⟩)
  have HL2 := hid hl2
  have HB2 := hid (HB1.out.trans hb2)
  clear HT1 HL1 HB1 hl2 hb2
  have HA3 : Hid (Calls Try.prog 10 #[.pointer (some ⟨T, 0, none⟩), .slice (some ⟨w2.heap.size, 0, none⟩) 1 1] (w2.alloc (.cells #[.string ⟨#[97]⟩] 9)) fun e w' => e = .returned (.int .i64 0) ∧ LsP T T [bB] [bB, bA] w2 w') := hid (by
    have h := add_lit HL2.out [bA] #[.string ⟨#[97]⟩] rfl 1 rfl (by decide) (by decide)
    rw [ex2] at h
    exact h)
  go_upto_region 6 with (go_at_call 10; refine HA3.out.mono ?_; rintro e w3 ⟨rfl, F3, hl3, hb3⟩)
  have HB3 := hid (HB2.out.trans hb3)
  have HT3 : Hid (Calls Try.prog 8 #[.pointer (some ⟨T, 0, none⟩)] w3 fun e w' => e = .returned (.tuple #[.string ⟨#[98]⟩, .bool true]) ∧ LsP T T [] [bB, bA] w3 w') := hid ((ltake_any hl3 (by decide)).mono fun e w' h => ⟨h.1, h.2.ls⟩)
  clear HA3 HL2 HB2 hl3 hb3
  go_upto_region 7 with (go_at_call 8; refine HT3.out.mono ?_; rintro e w4 ⟨rfl, F4, hl4, hb4⟩)
  have HB4 := hid (HB3.out.trans hb4)
  have HT4 := hid (ltake_none hl4)
  have HN4 := hid (llen_any hl4)
  have HS4 : Hid (Calls Try.prog 13 #[.pointer (some ⟨T, 0, none⟩), .string ⟨#[97]⟩] w4 fun e w' => e = .returned (.bool true) ∧ w' = w4) := hid (by
    have h := lseen_any hl4 bA
    rw [ex3] at h
    exact h)
  have HS5 : Hid (Calls Try.prog 13 #[.pointer (some ⟨T, 0, none⟩), .string ⟨#[99]⟩] w4 fun e w' => e = .returned (.bool false) ∧ w' = w4) := hid (by
    have h := lseen_any hl4 bC
    rw [ex4] at h
    exact h)
  clear HT3 HB3 hl4 hb4
  go_upto_region 8 with (go_at_call 8; refine HT4.out.mono ?_; rintro e w5 ⟨rfl, rfl⟩)
  have HBf : Hid (Below T w (w5.alloc (.cells #[.string ⟨#[97]⟩] 9))) := hid (HB4.out.alloc (Nat.le_trans (Nat.le_of_eq HT.out.symm) HB4.out.size) _)
  go_wp2_with fail
  refine HN4.out.mono ?_
  rintro e w6 ⟨rfl, rfl⟩
  go_wp2_with fail
  refine HS4.out.mono ?_
  rintro e w6 ⟨rfl, rfl⟩
  go_wp2_with fail
  refine HS5.out.mono ?_
  rintro e w6 ⟨rfl, rfl⟩
  go_wp2_with fail
  refine (add_nil _ _ _ _).mono ?_
  rintro e w6 ⟨rfl, rfl⟩
  go_wp2_with fail
  refine (len_nil _).mono ?_
  rintro e w6 ⟨rfl, rfl⟩
  go_wp2_with fail
  refine (seen_nil _ _).mono ?_
  rintro e w6 ⟨rfl, rfl⟩
  go_wp2_with fail
  go_ret
  rw [HT.out]
  exact ⟨rfl, HBf.out⟩
end Go.Proofs.Ytbcjbembhajgcaa.Wnt
