/-
  wanted's reference: Put (as in stage 14, without objects), Has.
-/
import Derived.Test.YtbcjbembhajgcaaQa
import Derived.Test.YtbcjbembhajgcaaMg
import Derived.Laws.Cover1
namespace Go.Proofs.Ytbcjbembhajgcaa.Wnt
open Go.RowKit Go.Proofs Go.Proofs.Ytbcjbembhajgcaa.Byt
open Go.Proofs.Ytbcjbembhajgcaa.Tab (bl bl_iff putN tl_inj)

/-- Whether a name is in a list. -/
def hasN (l : List ByteArray) (x : ByteArray) : Bool := l.any fun y => decide (y = x)
theorem hasN_iff {l : List ByteArray} {x : ByteArray} : hasN l x = true ↔ x ∈ l := by
  unfold hasN
  rw [List.any_eq_true]
  constructor
  · rintro ⟨y, hy, e⟩
    rw [decide_eq_true_eq] at e
    exact e ▸ hy
  · intro h
    exact ⟨x, h, decide_eq_true rfl⟩
/-- Names that the call has made a list of. -/
def NmsP (l : List ByteArray) (w : World) (e : Ending) (w' : World) : Prop :=
  ∃ A c, e = .returned (.slice A l.length c) ∧ Sls.Own w' w.heap.size (.slice A l.length c) l.length l ∧ Below w.heap.size w w'
/-- What is there and what is still to come. -/
def putG (l : List ByteArray) (x : ByteArray) (k : Nat) (d : Bool) (out : List ByteArray) : Prop :=
  putN l x = out ++ (if d = true then l.drop k else putN (l.drop k) x) ∧ out.length ≤ k + (if d = true then 1 else 0)
theorem putG_done {l : List ByteArray} {x : ByteArray} {k : Nat} {out : List ByteArray} (h : putG l x k true out) (hk : k < l.length) : putG l x (k + 1) true (out ++ [l[k]]) := by
  refine ⟨?_, by rw [List.length_append]; have := h.2; simp at this ⊢; omega⟩
  rw [h.1, if_pos rfl, if_pos rfl, List.drop_eq_getElem_cons hk, List.append_assoc]
  rfl
theorem putG_less {l : List ByteArray} {x : ByteArray} {k : Nat} {out : List ByteArray} (h : putG l x k false out) (hk : k < l.length) (hl : bl l[k] x = true) : putG l x (k + 1) false (out ++ [l[k]]) := by
  refine ⟨?_, by rw [List.length_append]; have := h.2; simp at this ⊢; omega⟩
  rw [h.1, if_neg (by decide), if_neg (by decide), List.drop_eq_getElem_cons hk, putN, if_pos hl, List.append_assoc]
  rfl
theorem putG_same {l : List ByteArray} {x : ByteArray} {k : Nat} {out : List ByteArray} (h : putG l x k false out) (hk : k < l.length) (hl : bl l[k] x = false) (he : l[k] = x) : putG l x (k + 1) true (out ++ [l[k]]) := by
  refine ⟨?_, by rw [List.length_append]; have := h.2; simp at this ⊢; omega⟩
  rw [h.1, if_neg (by decide), if_pos rfl, List.drop_eq_getElem_cons hk, putN, if_neg (by rw [hl]; decide), if_pos he, List.append_assoc]
  rfl
theorem putG_new {l : List ByteArray} {x : ByteArray} {k : Nat} {out : List ByteArray} (h : putG l x k false out) (hk : k < l.length) (hl : bl l[k] x = false) (he : l[k] ≠ x) : putG l x (k + 1) true (out ++ [x] ++ [l[k]]) := by
  refine ⟨?_, by rw [List.length_append, List.length_append]; have := h.2; simp at this ⊢; omega⟩
  rw [h.1, if_neg (by decide), if_pos rfl, List.drop_eq_getElem_cons hk, putN, if_neg (by rw [hl]; decide), if_neg he, List.append_assoc, List.append_assoc]
  rfl

set_option linter.unusedSimpArgs false in
set_option maxRecDepth 100000 in
set_option maxHeartbeats 2000000 in
theorem rput_any (K : Nat) (A : Option Addr) (n c : Nat) (l : List ByteArray) (x : ByteArray) (w : World) (h : Sls.Rd w K A n l) (hK : K ≤ w.heap.size) (hn : n ≤ 10000) :
    Calls Try.prog 17 #[.slice A n c, .string x] w (NmsP (putN l x) w) := by
  have Hl := hid h.1
  have HG0 : Hid (putG l x 0 false []) := hid ⟨by simp, by simp⟩
  go_enter Try.func17, Try.ntmps17
  go_wp2_with fail
  go_loopw [5, 6, 7] (fun v dv iv W => ∃ (k m : Nat) (A1 : Option Addr) (c1 : Nat) (d : Bool) (out : List ByteArray), iv = .int .i64 (k : Int) ∧ k ≤ n ∧ v = .slice A1 m c1 ∧ dv = .bool d ∧ Sls.Own W w.heap.size (.slice A1 m c1) m out ∧ Below w.heap.size w W ∧ Hid (putG l x k d out)) (fun _ _ iv _ => n - (intOf iv).toNat)
  case atStart => exact ⟨0, 0, none, 0, false, [], rfl, by omega, rfl, rfl, Sls.Own.nil _ _, Below.refl _ _, HG0⟩
  case round =>
    obtain ⟨k, m, A1, c1, d, out, rfl, hk, rfl, rfl, hO, hb, hG⟩ := hrel
    clear HG0
    have hbs := hb.size
    have hm : m ≤ k + 1 := by
      have h1 := hG.out.2
      have h2 := hO.1
      split at h1 <;> omega
    by_cases hlt : k < n
    · have hkl : k < l.length := by have := Hl.out; omega
      have hki : (k : Int) < (n : Int) := by omega
      obtain ⟨b, o, rfl, hbK, c0⟩ := (h.below (hb.mono hK)).2 k hkl
      have G1 : Hid (d = true → putG l x (k + 1) true (out ++ [l[k]])) := hid fun e => putG_done (e ▸ hG.out) hkl
      have G2 : Hid (d = false → bl l[k] x = true → putG l x (k + 1) false (out ++ [l[k]])) := hid fun e => putG_less (e ▸ hG.out) hkl
      have G3 : Hid (d = false → bl l[k] x = false → l[k] = x → putG l x (k + 1) true (out ++ [l[k]])) := hid fun e => putG_same (e ▸ hG.out) hkl
      have G4 : Hid (d = false → bl l[k] x = false → l[k] ≠ x → putG l x (k + 1) true (out ++ [x] ++ [l[k]])) := hid fun e => putG_new (e ▸ hG.out) hkl
      clear hG
      have hb0 : b < wr.heap.size := by omega
      have HD := hid fun (V : World) (hV : Below w.heap.size w V) => (by obtain ⟨b', o', e, _, q⟩ := (h.below (hV.mono hK)).2 k hkl; injection e with e; injection e with e1 e2; subst e1 e2; exact q : V.cell? ⟨b, o + k, none⟩ = some (.string l[k]))
      generalize l[k] = a at *
      cases d
      · cases hl : bl a x
        · have e1 : Op.bytesLess a.toList x.toList = false := hl
          by_cases he : a = x
          · have e2 : (a.toList == x.toList) = true := by rw [he]; simp
            have HN := hid (G3.out rfl hl he)
            clear G1 G2 G3 G4 hl he
            go_wp2_with (at_builtin; refine Sls.wpList_push wr w.heap.size (.slice A1 m c1) m out a hO hbs (by omega) rfl (.tmp 34) (.tmp 39) rfl rfl rfl ?_; intro v4 w4 ho4 hb4 _ _; obtain ⟨A4, c4, rfl, _⟩ := ho4.reads)
            have hb04 := hb.trans hb4
            clear hb4 hO hb c0
            go_roundw
            · exact ⟨k + 1, m + 1, A4, c4, true, _, by go_num, by omega, rfl, rfl, ho4, hb04, HN⟩
            · simp [intOf]; omega
          · have e2 : (a.toList == x.toList) = false := by
              simp only [beq_eq_false_iff_ne]
              exact fun e => he (tl_inj e)
            have HN := hid (G4.out rfl hl he)
            clear G1 G2 G3 G4 hl he
            go_wp2_with (first | (at_builtin; refine Sls.wpList_push wr w.heap.size (.slice A1 m c1) m out x hO hbs (by omega) rfl (.tmp 30) (.tmp 32) rfl rfl rfl ?_; intro v4 w4 ho4 hb4 _ _; obtain ⟨A4, c4, rfl, _⟩ := ho4.reads; have hb04 := hb.trans hb4; have hz4 := hb04.size; have c4' := HD.out w4 hb04) | (at_builtin; refine Sls.wpList_push w4 w.heap.size (.slice A4 (m + 1) c4) (m + 1) (out ++ [x]) a ho4 hz4 (by omega) rfl (.tmp 34) (.tmp 39) rfl rfl rfl ?_; intro v5 w5 ho5 hb5 _ _; obtain ⟨A5, c5, rfl, _⟩ := ho5.reads))
            have hb05 := hb04.trans hb5
            clear hb5 hb04 hO hb c0
            go_roundw
            · exact ⟨k + 1, m + 1 + 1, A5, c5, true, _, by go_num, by omega, rfl, rfl, ho5, hb05, HN⟩
            · simp [intOf]; omega
        · have e1 : Op.bytesLess a.toList x.toList = true := hl
          have HN := hid (G2.out rfl hl)
          clear G1 G2 G3 G4 hl
          go_wp2_with (at_builtin; refine Sls.wpList_push wr w.heap.size (.slice A1 m c1) m out a hO hbs (by omega) rfl (.tmp 34) (.tmp 39) rfl rfl rfl ?_; intro v4 w4 ho4 hb4 _ _; obtain ⟨A4, c4, rfl, _⟩ := ho4.reads)
          have hb04 := hb.trans hb4
          clear hb4 hO hb c0
          go_roundw
          · exact ⟨k + 1, m + 1, A4, c4, false, _, by go_num, by omega, rfl, rfl, ho4, hb04, HN⟩
          · simp [intOf]; omega
      · have HN := hid (G1.out rfl)
        clear G1 G2 G3 G4
        go_wp2_with (at_builtin; refine Sls.wpList_push wr w.heap.size (.slice A1 m c1) m out a hO hbs (by omega) rfl (.tmp 34) (.tmp 39) rfl rfl rfl ?_; intro v4 w4 ho4 hb4 _ _; obtain ⟨A4, c4, rfl, _⟩ := ho4.reads)
        have hb04 := hb.trans hb4
        clear hb4 hO hb c0
        go_roundw
        · exact ⟨k + 1, m + 1, A4, c4, true, _, by go_num, by omega, rfl, rfl, ho4, hb04, HN⟩
        · simp [intOf]; omega
    · obtain rfl : k = n := by omega
      have hki : ¬ (k : Int) < (k : Int) := by omega
      have hE : Hid (l.drop k = []) := hid (List.drop_eq_nil_iff.2 (by have := Hl.out; omega))
      have hq := hG.out.1
      rw [hE.out] at hq
      clear hG hE
      cases d
      · rw [if_neg (by decide)] at hq
        have hq' : putN l x = out ++ [x] := hq
        have hL := hO.1
        have HQ := hid hq'
        clear hq hq'
        go_wp2_with (at_builtin; refine Sls.wpList_push wr w.heap.size (.slice A1 m c1) m out x hO hbs (by omega) rfl (.tmp 43) (.tmp 45) rfl rfl rfl ?_; intro v4 w4 ho4 hb4 _ _; obtain ⟨A4, c4, rfl, _⟩ := ho4.reads)
        go_ret
        unfold NmsP
        rw [HQ.out, List.length_append, List.length_singleton, hL]
        exact ⟨A4, c4, rfl, ho4, hb.trans hb4⟩
      · rw [if_pos rfl, List.append_nil] at hq
        have hL := hO.1
        have HQ := hid hq
        clear hq
        go_wp2_with fail
        go_ret
        unfold NmsP
        rw [HQ.out, hL]
        exact ⟨A1, c1, rfl, hO, hb⟩
set_option linter.unusedSimpArgs false in
set_option maxRecDepth 100000 in
theorem rhas_any (K : Nat) (A : Option Addr) (n c : Nat) (l : List ByteArray) (x : ByteArray) (w : World) (h : Sls.Rd w K A n l) (hn : n ≤ 10000) :
    Calls Try.prog 14 #[.slice A n c, .string x] w fun e w' => e = .returned (.bool (hasN l x)) ∧ w' = w := by
  have Hl := hid h.1
  go_enter Try.func14, Try.ntmps14
  go_wp2_with fail
  go_loopw [5] (fun iv W => ∃ k : Nat, iv = .int .i64 (k : Int) ∧ k ≤ n ∧ Hid (x ∉ l.take k) ∧ W = w) (fun iv _ => n - (intOf iv).toNat)
  case atStart => exact ⟨0, rfl, by omega, hid (by simp), rfl⟩
  case round =>
    obtain ⟨k, rfl, hk, hG, rfl⟩ := hrel
    by_cases hlt : k < n
    · have hkl : k < l.length := by have := Hl.out; omega
      have hki : (k : Int) < (n : Int) := by omega
      obtain ⟨b, o, rfl, hbK, c0⟩ := h.2 k hkl
      by_cases he : l[k] = x
      · have e1 : (l[k].toList == x.toList) = true := by rw [he]; simp
        have HR : Hid (hasN l x = true) := hid (hasN_iff.2 (he ▸ List.getElem_mem hkl))
        generalize l[k] = y at *
        clear he
        go_wp2_with fail
        go_ret
        exact ⟨ret_bool HR.out.symm, rfl⟩
      · have e1 : (l[k].toList == x.toList) = false := by
          simp only [beq_eq_false_iff_ne]
          exact fun e => he (tl_inj e)
        have HN : Hid (x ∉ l.take (k + 1)) := hid (by
          rw [List.take_succ_eq_append_getElem hkl, List.mem_append, List.mem_singleton]
          rintro (h1 | h1)
          · exact hG.out h1
          · exact he h1.symm)
        generalize l[k] = y at *
        clear he hG
        go_wp2_with fail
        go_roundw
        · exact ⟨k + 1, by go_num, by omega, HN, trivial⟩
        · simp [intOf]; omega
    · obtain rfl : k = n := by omega
      have hki : ¬ (k : Int) < (k : Int) := by omega
      have HR : Hid (hasN l x = false) := hid (by
        have := hG.out
        rw [List.take_of_length_le (by have := Hl.out; omega)] at this
        cases hd : hasN l x
        · rfl
        · exact absurd (hasN_iff.1 hd) this)
      clear hG
      go_wp2_with fail
      go_ret
      exact ⟨ret_bool HR.out.symm, rfl⟩
end Go.Proofs.Ytbcjbembhajgcaa.Wnt
