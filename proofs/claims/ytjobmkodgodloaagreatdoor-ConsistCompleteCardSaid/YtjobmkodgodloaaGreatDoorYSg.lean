/-
  symindex: Defs of the program: a choice of the symbols that are definitions.
  symindex: lists of the names of each member; Concat and Grow of the library; entries.
-/
import Derived.Test.YtjobmkodgodloaaGreatDoorYSa
import Derived.Test.YtjobmkodgodloaaGreatDoorYOk
import Derived.BigQuiet
import Derived.Test.YtjobmkodgodloaaGreatDoorYAf
import Derived.Test.YtjobmkodgodloaaGreatDoorYWa
import Derived.Lib.AppendZeros
namespace Go.Proofs.YtjobmkodgodloaaGreatDoor.Six
open Go.RowKit Go.Proofs Go.Proofs.YtjobmkodgodloaaGreatDoor.Byt

set_option maxRecDepth 100000 in
set_option maxHeartbeats 1000000 in
theorem definedName_any (x : Obj.Sy) (w : World) :
   Calls Tryz.prog 81 #[x.val] w fun e w' => e = .returned (.tuple #[.string x.name, .bool (isDef x)]) ∧ Below w.heap.size w w' := by
 obtain ⟨s, b, z, a⟩ := x
 have hb0 := (Below.refl w.heap.size w).alloc (Nat.le_refl _) (.cells #[.string s, .int .i64 b, .int .i64 z, .int .i64 a] 69)
 have hrow := heap_alloc_new w (.cells #[.string s, .int .i64 b, .int .i64 z, .int .i64 a] 69)
 show Calls Tryz.prog 81 #[.agg #[.string s, .int .i64 b, .int .i64 z, .int .i64 a]] w fun e w' => e = .returned (.tuple #[.string s, .bool (isDef ⟨s, b, z, a⟩)]) ∧ Below w.heap.size w w'
 have HD : Hid (isDef ⟨s, b, z, a⟩ = (b == 1 || b == 2)) := hid rfl
 generalize isDef ⟨s, b, z, a⟩ = r at *
 go_enter Tryz.func81, Tryz.ntmps81
 go_upto_region 1 with fail
 generalize w.alloc (.cells #[.string s, .int .i64 b, .int .i64 z, .int .i64 a] 69) = w1 at *
 generalize hg : w.heap.size = g at hrow hb0 ⊢
 have Hg := hid hg
 clear hg
 have d0 := cell_of_row _ g 0 _ _ _ hrow
 have d1 := cell_of_row _ g 1 _ _ _ hrow
 clear hrow
 cases h1 : (b == 1)
 · cases h2 : (b == 2)
   all_goals have HR := hid HD.out
   all_goals rw [h1, h2] at HR
   all_goals clear HD
   all_goals go_quiet (fail)
   all_goals go_wp2_with fail
   all_goals go_ret2
   all_goals exact ⟨by rw [HR.out]; rfl, by rw [Hg.out]; exact hb0.trans (Dec.below_drewN _ _)⟩
 · have HR := hid HD.out
   rw [h1] at HR
   clear HD
   go_quiet (fail)
   go_wp2_with fail
   go_ret2
   exact ⟨by rw [HR.out]; rfl, by rw [Hg.out]; exact hb0.trans (Dec.below_drewN _ _)⟩

set_option linter.unusedSimpArgs false in
set_option maxRecDepth 100000 in
set_option maxHeartbeats 4000000 in
theorem choose_any (K : Nat) (A : Option Addr) (n c : Nat) (xs : List Obj.Sy) (w : World) (h : Obj.RdS w K A n xs) (hK : K ≤ w.heap.size) (hn : n ≤ 100000) :
   Calls Tryz.prog 80 #[.slice A n c, .func (.func 81) #[] #[]] w fun e w' => ∃ A2 n2 c2, e = .returned (.slice A2 n2 c2) ∧ Sls.Own w' w.heap.size (.slice A2 n2 c2) n2 (defsS xs) ∧ Below w.heap.size w w' := by
 have Hl := hid h.1
 go_enter Tryz.func80, Tryz.ntmps80
 go_wp2_with fail
 go_loopw [5, 12] (fun v i W => ∃ (k j : Nat) (A2 : Option Addr) (c2 : Nat), i = .int .i64 (k : Int) ∧ k ≤ n ∧ v = .slice A2 j c2 ∧ j ≤ k ∧ Sls.Own W w.heap.size (.slice A2 j c2) j (defsS (xs.take k)) ∧ Below w.heap.size w W) (fun _ i _ => n - (intOf i).toNat)
 case atStart => exact ⟨0, 0, none, 0, rfl, by omega, rfl, by omega, Sls.Own.nil _ _, Below.refl _ _⟩
 case round =>
   obtain ⟨k, j, A2, c2, rfl, hk, rfl, hjk, hO, hb⟩ := hrel
   by_cases hlt : k < n
   · have hkl : k < xs.length := by have := Hl.out; omega
     have hki : (k : Int) < (n : Int) := by omega
     obtain ⟨⟨b, o, rfl, hbK, hcell⟩, _⟩ := (h.below (hb.mono hK)).2 k hkl
     have HT := hid (defsS_take hkl)
     generalize xs[k] = x at *
     have Hf := hid fun W => definedName_any x W
     have Hd : Hid (isDef x = true → defsS (xs.take (k + 1)) = defsS (xs.take k) ++ [x.name]) := hid fun q => by rw [HT.out, defsS_one_yes q]
     have Hn : Hid (isDef x = false → defsS (xs.take (k + 1)) = defsS (xs.take k)) := hid fun q => by rw [HT.out, defsS_one_no q, List.append_nil]
     generalize isDef x = dx at *
     obtain ⟨x0, x1, x2, x3⟩ := x
     obtain ⟨p0, p1, p2, p3⟩ := hcell
     simp only [Obj.Sy.val] at *
     have hba := hb.alloc hb.size (.cells #[.string x0, .int .i64 x1, .int .i64 x2, .int .i64 x3] 69)
     have hOa := hO.alloc (.cells #[.string x0, .int .i64 x1, .int .i64 x2, .int .i64 x3] 69)
     clear hO hb HT
     go_wp2_with fail
     refine (Hf.out _).mono ?_
     rintro e w2 ⟨rfl, hb2⟩
     have hO2 := hOa.below hb2
     have hb02 := hba.trans (hb2.mono hba.size)
     have hbs := hb02.size
     clear hba hb2 p0 p1 p2 p3 hOa
     cases dx
     · have HR := hid (Hn.out rfl)
       go_wp2_with fail
       go_roundw
       · exact ⟨k + 1, j, A2, c2, by go_num, by omega, rfl, by omega, by rw [HR.out]; exact hO2, hb02⟩
       · simp [intOf]; omega
     · have HR := hid (Hd.out rfl)
       go_wp2_with (at_builtin; go_must (refine Sls.wpList_push w2 w.heap.size (.slice A2 j c2) j _ x0 hO2 hbs (by omega) rfl (.tmp 23) (.tmp 25) rfl rfl rfl ?_); intro v4 w4 ho4 hb4 _ _; obtain ⟨A4, c4, rfl, _⟩ := ho4.reads)
       have ho4' : Sls.Own w4 w.heap.size (.slice A4 (j + 1) c4) (j + 1) (defsS (xs.take (k + 1))) := by rw [HR.out]; exact ho4
       have hb04 := hb02.trans hb4
       clear ho4 hb4 hO2 hb02
       go_roundw
       · exact ⟨k + 1, j + 1, A4, c4, by go_num, by omega, rfl, by omega, ho4', hb04⟩
       · simp [intOf]; omega
   · obtain rfl : k = n := by omega
     have hki : ¬ (k : Int) < (k : Int) := by omega
     have hT : xs.take k = xs := List.take_of_length_le (by have := Hl.out; omega)
     rw [hT] at hO
     clear hT
     go_wp2_with fail
     go_ret
     exact ⟨A2, j, c2, rfl, hO, hb⟩

set_option linter.unusedSimpArgs false in
set_option maxRecDepth 100000 in
set_option maxHeartbeats 2000000 in
theorem pdefs_any (K : Nat) (A : Option Addr) (n c : Nat) (l : List UInt8) (w : World) (hr : Byt.Rd w K A n l) (hK : K ≤ w.heap.size) (hnc : n ≤ c) (hc : c ≤ maxLen) (hn : n ≤ 100000) :
   Calls Tryz.prog 61 #[.slice A n c] w (DefsP l w) := by
 go_enter Tryz.func61, Tryz.ntmps61
 go_wp2_with fail
 refine (Obj.decode_any K A n c l w hr hK hnc hc (by omega)).mono ?_
 rintro e w1 hD
 obtain ⟨A1, n1, c1, B1, m1, d1, rfl, hs1, _, hnc1, hn1, _, _, _, hb1⟩ := hD.reads
 have hrow := heap_alloc_new w1 (.cells #[.slice A1 n1 c1, .slice B1 m1 d1] 72)
 have hbA := (Below.refl w1.heap.size w1).alloc (Nat.le_refl _) (.cells #[.slice A1 n1 c1, .slice B1 m1 d1] 72)
 have q0 := cell_of_row _ w1.heap.size 0 _ _ _ hrow
 have hs2 := hs1.below hbA
 have hb2 := hb1.trans (hbA.mono hb1.size)
 have hbz := hbA.size
 have HC := hid (choose_any w1.heap.size A1 n1 c1 (Obj.decO l).2.1 _ hs2 hbz (by omega))
 generalize (Obj.decO l).1 = ze at *
 clear hD hs1 hbA hr hb1 hrow hs2
 go_wp2_with fail
 refine HC.out.mono ?_
 rintro e w3 ⟨A2, n2, c2, rfl, ho, hb3⟩
 have hbs := hb2.size
 go_wp2_with fail
 go_ret
 exact ⟨A2, n2, c2, rfl, ho.more hbs, hb2.trans (hb3.mono hbs)⟩
end Go.Proofs.YtjobmkodgodloaaGreatDoor.Six

namespace Go.Proofs.YtjobmkodgodloaaGreatDoor.Six
open Go.RowKit Go.Proofs Go.Proofs.YtjobmkodgodloaaGreatDoor.Byt
open Go.Proofs.YtjobmkodgodloaaGreatDoor.Sls (Oth)

theorem kSS : Cel.Kind 25 61 1 24 (.slice none 0 0) := ⟨by kernel_rfl, by kernel_rfl, by kernel_rfl, by decide⟩
def RdL (w : World) (K : Nat) (A : Option Addr) (n : Nat) (xs : List (List ByteArray)) : Prop :=
 xs.length = n ∧ ∀ k (h : k < xs.length), ∃ (b o : Nat) (A' : Option Addr) (c' : Nat), A = some ⟨b, o, none⟩ ∧ b < K ∧ w.cell? ⟨b, o + k, none⟩ = some (.slice A' xs[k].length c') ∧ Sls.Rd w K A' xs[k].length xs[k] ∧ xs[k].length ≤ c' ∧ c' ≤ maxLen
theorem RdL.below {w w' : World} {K n : Nat} {A : Option Addr} {xs : List (List ByteArray)} (h : RdL w K A n xs) (hb : Below K w w') : RdL w' K A n xs :=
 ⟨h.1, fun k hk => by
   obtain ⟨b, o, A', c', e, hl, hc, hr, h1, h2⟩ := h.2 k hk
   exact ⟨b, o, A', c', e, hl, by rw [hb.cell (p := ⟨b, o + k, none⟩) hl]; exact hc, hr.below hb, h1, h2⟩⟩
theorem RdL.more {w : World} {K K' n : Nat} {A : Option Addr} {xs : List (List ByteArray)} (h : RdL w K A n xs) (hK : K ≤ K') : RdL w K' A n xs :=
 ⟨h.1, fun k hk => by
   obtain ⟨b, o, A', c', e, hl, hc, hr, h1, h2⟩ := h.2 k hk
   exact ⟨b, o, A', c', e, by omega, hc, hr.more hK, h1, h2⟩⟩
def OwnL (w : World) (K : Nat) (v : Value) (n : Nat) (xs : List (List ByteArray)) : Prop :=
 ∃ vs : List Value, Cel.Own 61 1 w K v n vs ∧ vs.length = xs.length ∧ ∀ k (h : k < xs.length) (h' : k < vs.length), Sls.Own w K vs[k] xs[k].length xs[k]
theorem OwnL.of {w : World} {K : Nat} {v : Value} (h : Cel.Own 61 1 w K v 0 []) : OwnL w K v 0 [] := ⟨[], h, rfl, fun k hk => absurd hk (by simp)⟩
theorem OwnL.len {w : World} {K n : Nat} {v : Value} {xs : List (List ByteArray)} (h : OwnL w K v n xs) : xs.length = n := by
 obtain ⟨vs, ho, hl, _⟩ := h
 have := ho.1
 omega
theorem OwnL.below {w w' : World} {K n : Nat} {v : Value} {xs : List (List ByteArray)} (h : OwnL w K v n xs) (hb : Below w.heap.size w w') : OwnL w' K v n xs := by
 obtain ⟨vs, ho, hl, hs⟩ := h
 exact ⟨vs, ho.below hb, hl, fun k h1 h2 => (hs k h1 h2).below hb⟩
theorem OwnL.reads {w : World} {K n : Nat} {v : Value} {xs : List (List ByteArray)} (h : OwnL w K v n xs) : ∃ A c, v = .slice A n c ∧ RdL w w.heap.size A n xs ∧ n ≤ c ∧ c ≤ maxLen := by
 have hn := h.len
 obtain ⟨vs, ho, hl, hs⟩ := h
 obtain ⟨A, c, rfl, hr, hnc, hc⟩ := ho.reads
 refine ⟨A, c, rfl, ⟨hn, fun k hk => ?_⟩, hnc, hc⟩
 have hkv : k < vs.length := by omega
 obtain ⟨b, o, e, hb, hcell⟩ := hr.2 k hkv
 obtain ⟨A', c', e', hr', h1, h2⟩ := (hs k hk hkv).reads
 exact ⟨b, o, A', c', e, hb, by rw [hcell, e'], hr', h1, h2⟩
theorem OwnL.push {w w' : World} {K n : Nat} {v' u : Value} {xs : List (List ByteArray)} {x : List ByteArray} {vs : List Value}
   (hl : vs.length = xs.length) (hs : ∀ k (h : k < xs.length) (h' : k < vs.length), Sls.Own w K vs[k] xs[k].length xs[k]) (hx : Sls.Own w K u x.length x)
   (ho : Cel.Own 61 1 w' K v' (n + 1) (vs ++ [u])) (hoth : Oth 61 w w') : OwnL w' K v' (n + 1) (xs ++ [x]) := by
 refine ⟨vs ++ [u], ho, by simp [hl], fun k h1 h2 => ?_⟩
 have hne : (9 : Nat) ≠ 61 := by decide
 by_cases hk : k < xs.length
 · rw [List.getElem_append_left (by omega), List.getElem_append_left hk]
   exact sown_oth (hs k hk (by omega)) hoth hne
 · have e1 : k = xs.length := by simp at h1; omega
   subst e1
   have e2 : (vs ++ [u])[xs.length]'h2 = u := by rw [List.getElem_append_right (by omega)]; simp [hl]
   have e3 : (xs ++ [x])[xs.length]'h1 = x := by rw [List.getElem_append_right (by omega)]; simp
   rw [e2, e3]
   exact sown_oth hx hoth hne

end Go.Proofs.YtjobmkodgodloaaGreatDoor.Six
