/-
  symtab's reference: Right.
-/
import Derived.Test.YtbcjbembhajgcaaDoorZVb
import Derived.Test.YtbcjbembhajgcaaDoorZOj
import Derived.Test.YtbcjbembhajgcaaDoorZBi
namespace Go.Proofs.YtbcjbembhajgcaaDoor.Tab
open Go.RowKit Go.Proofs Go.Proofs.YtbcjbembhajgcaaDoor.Byt
open Go.Proofs.YtbcjbembhajgcaaDoor.Obj (Sy RdS SCells validO fewO rfew_any rvalid_any)
open Go.Proofs.YtbcjbembhajgcaaDoor.Bnd

structure RightO (os : List (List Sy)) : Prop where
  len : os.length ≤ 12
  few : ∀ o ∈ os, o.length ≤ 20
  val : ∀ o ∈ os, validO o = true

set_option linter.unusedSimpArgs false in
set_option maxRecDepth 100000 in
set_option maxHeartbeats 4000000 in
theorem rright_any (K : Nat) (A : Option Addr) (n c : Nat) (os : List (List Sy)) (w : World) (h : RdO w K A n os) (hK : K ≤ w.heap.size) :
    Calls Tryd.prog 5 #[.slice A n c] w fun e w' => Below w.heap.size w w' ∧ ((e = .returned (.bool true) ∧ RightO os) ∨ e = .returned (.bool false)) := by
  have Hl := hid h.1
  by_cases h12 : 12 < n
  · have h12i : (12 : Int) < (n : Int) := by omega
    go_enter Tryd.func5, Tryd.ntmps5
    go_wp2_with fail
    go_ret
    exact ⟨Below.refl _ _, .inr rfl⟩
  have h12i : ¬ (12 : Int) < (n : Int) := by omega
  go_enter Tryd.func5, Tryd.ntmps5
  go_wp2_with fail
  go_loopw [3] (fun iv W => ∃ k : Nat, iv = .int .i64 (k : Int) ∧ k ≤ n ∧ Hid (∀ o ∈ os.take k, o.length ≤ 20 ∧ validO o = true) ∧ Below w.heap.size w W) (fun iv _ => n - (intOf iv).toNat)
  case atStart => exact ⟨0, rfl, by omega, hid (by simp), Below.refl _ _⟩
  case round =>
    obtain ⟨k, rfl, hk, hG, hb⟩ := hrel
    by_cases hlt : k < n
    · have hkl : k < os.length := by have := Hl.out; omega
      have hki : (k : Int) < (n : Int) := by omega
      obtain ⟨b, o, rfl, hbK, S, B, p, cs, md, d, q0, q1, hob⟩ := h.2 k hkl
      have HC := hid fun (V : World) (hV : Below w.heap.size w V) => (⟨(hV.cell (p := ⟨b, o + k * 2, none⟩) (by show b < _; omega)).trans q0, (hV.cell (p := ⟨b, o + k * 2 + 1, none⟩) (by show b < _; omega)).trans q1⟩ : _ ∧ _)
      have HS := hid fun (V : World) (hV : Below w.heap.size w V) => hob.below (hV.mono hK)
      have Hp := hid hob.s.1
      have HT : Hid (os[k].length ≤ 20 → validO os[k] = true → ∀ o ∈ os.take (k + 1), o.length ≤ 20 ∧ validO o = true) := hid fun h1 h2 o ho => by
        rw [List.take_succ_eq_append_getElem hkl] at ho
        rcases List.mem_append.1 ho with ho | ho
        · exact hG.out o ho
        · rw [List.mem_singleton.1 ho]; exact ⟨h1, h2⟩
      have hnc := hob.nc
      generalize os[k] = ob at *
      obtain ⟨c0, c1⟩ := HC.out wr hb
      clear hob q0 q1
      by_cases h20 : 20 < p
      · have h20i : (20 : Int) < (p : Int) := by omega
        clear HT
        go_wp2_with fail
        go_ret
        exact ⟨hb, .inr rfl⟩
      have h20i : ¬ (20 : Int) < (p : Int) := by omega
      have hFew := hid (rfew_any K S B p cs md d ob wr (HS.out wr hb).s (by have := hb.size; omega))
      go_wp2_with fail
      refine hFew.out.mono ?_
      rintro e w4 ⟨rfl, hb4'⟩
      have hb4 := hb.trans (hb4'.mono hb.size)
      clear hFew hb4' c0 c1
      obtain ⟨c0, c1⟩ := HC.out w4 hb4
      cases hf : fewO ob md
      · clear HT
        go_wp2_with fail
        go_ret
        exact ⟨hb4, .inr rfl⟩
      have hVal := hid (rvalid_any K S B p cs md d ob w4 (HS.out w4 hb4).s (by have := hb4.size; omega) (by omega) hnc)
      go_wp2_with fail
      refine hVal.out.mono ?_
      rintro e w5 ⟨rfl, hb5'⟩
      have hb5 := hb4.trans (hb5'.mono hb4.size)
      clear hVal hb5' c0 c1
      cases hv : validO ob
      · clear HT
        go_wp2_with fail
        go_ret
        exact ⟨hb5, .inr rfl⟩
      have HT2 := hid (HT.out (by have := Hp.out; omega) hv)
      clear HT
      go_wp2_with fail
      go_roundw
      · exact ⟨k + 1, by go_num, by omega, HT2, hb5⟩
      · simp [intOf]; omega
    · obtain rfl : k = n := by omega
      have hki : ¬ (k : Int) < (k : Int) := by omega
      have hR := hG.out
      rw [List.take_of_length_le (by have := Hl.out; omega)] at hR
      have HR := hid (⟨by have := Hl.out; omega, fun o ho => (hR o ho).1, fun o ho => (hR o ho).2⟩ : RightO os)
      clear hR hG
      go_wp2_with fail
      go_ret
      exact ⟨hb, .inl ⟨rfl, HR.out⟩⟩
end Go.Proofs.YtbcjbembhajgcaaDoor.Tab
