/-
  symtab: objects in memory.
  symtab's reference: Put.
  symtab's reference: Names.
-/
import Derived.Test.YtndjnmeblpjlhaaDoorYVa
import Derived.Test.YtndjnmeblpjlhaaDoorYOj
import Derived.Test.YtndjnmeblpjlhaaDoorYBc
namespace Go.Proofs.YtndjnmeblpjlhaaDoor.Tab
open Go.RowKit Go.Proofs Go.Proofs.YtndjnmeblpjlhaaDoor.Byt
open Go.Proofs.YtndjnmeblpjlhaaDoor.Obj (Sy RdS SCells)
open Go.Proofs.YtndjnmeblpjlhaaDoor.Bnd

/-- An object, read. -/
structure Ob (w : World) (K : Nat) (A B : Option Addr) (n c m d : Nat) (xs : List Sy) : Prop where
  s : RdS w K A n xs
  nc : n ≤ c
  cm : c ≤ maxLen
  mm : m ≤ maxLen
/-- A slice of objects. -/
def RdO (w : World) (K : Nat) (A : Option Addr) (n : Nat) (os : List (List Sy)) : Prop :=
  os.length = n ∧ ∀ k (h : k < os.length), ∃ b o : Nat, A = some ⟨b, o, none⟩ ∧ b < K ∧ ∃ (S B : Option Addr) (p c m d : Nat), w.cell? ⟨b, o + k * 2, none⟩ = some (.slice S p c) ∧ w.cell? ⟨b, o + k * 2 + 1, none⟩ = some (.slice B m d) ∧ Ob w K S B p c m d os[k]
theorem Ob.below {w w' : World} {K n c m d : Nat} {A B : Option Addr} {xs : List Sy} (h : Ob w K A B n c m d xs) (hb : Below K w w') : Ob w' K A B n c m d xs := ⟨h.s.below hb, h.nc, h.cm, h.mm⟩
theorem Ob.more {w : World} {K K' n c m d : Nat} {A B : Option Addr} {xs : List Sy} (h : Ob w K A B n c m d xs) (hK : K ≤ K') : Ob w K' A B n c m d xs := ⟨h.s.more hK, h.nc, h.cm, h.mm⟩
theorem RdO.below {w w' : World} {K n : Nat} {A : Option Addr} {os : List (List Sy)} (h : RdO w K A n os) (hb : Below K w w') : RdO w' K A n os :=
  ⟨h.1, fun k hk => by
    obtain ⟨b, o, e, hl, S, B, p, c, m, d, h0, h1, h2⟩ := h.2 k hk
    exact ⟨b, o, e, hl, S, B, p, c, m, d, (hb.cell (p := ⟨b, o + k * 2, none⟩) hl).trans h0, (hb.cell (p := ⟨b, o + k * 2 + 1, none⟩) hl).trans h1, h2.below hb⟩⟩
theorem RdO.more {w : World} {K K' n : Nat} {A : Option Addr} {os : List (List Sy)} (h : RdO w K A n os) (hK : K ≤ K') : RdO w K' A n os :=
  ⟨h.1, fun k hk => by
    obtain ⟨b, o, e, hl, S, B, p, c, m, d, h0, h1, h2⟩ := h.2 k hk
    exact ⟨b, o, e, by omega, S, B, p, c, m, d, h0, h1, h2.more hK⟩⟩
theorem RdO.pre {w : World} {K n m : Nat} {A : Option Addr} {os : List (List Sy)} (h : RdO w K A n os) (hm : m ≤ n) : RdO w K A m (os.take m) := by
  refine ⟨by rw [List.length_take, h.1]; omega, fun j hj => ?_⟩
  rw [List.length_take] at hj
  rw [List.getElem_take]
  exact h.2 j (by omega)
end Go.Proofs.YtndjnmeblpjlhaaDoor.Tab

namespace Go.Proofs.YtndjnmeblpjlhaaDoor.Tab
open Go.RowKit Go.Proofs Go.Proofs.YtndjnmeblpjlhaaDoor.Byt
open Go.Proofs.YtndjnmeblpjlhaaDoor.Obj (Sy RdS SCells)
open Go.Proofs.YtndjnmeblpjlhaaDoor.Bnd

/-- Names that the call has made a list of. -/
def NmsP (l : List ByteArray) (w : World) (e : Ending) (w' : World) : Prop :=
  ∃ A c, e = .returned (.slice A l.length c) ∧ Sls.Own w' w.heap.size (.slice A l.length c) l.length l ∧ Below w.heap.size w w'
/-- What is there and what is still to come. -/
def putG (l : List ByteArray) (x : ByteArray) (k : Nat) (d : Bool) (out : List ByteArray) : Prop :=
  putN l x = out ++ (if d = true then l.drop k else putN (l.drop k) x) ∧ out.length ≤ k + (if d = true then 1 else 0)
theorem putG_done {l : List ByteArray} {x : ByteArray} {k : Nat} {out : List ByteArray} (h : putG l x k true out) (hk : k < l.length) : putG l x (k + 1) true (out ++ [l[k]]) := by
  refine ⟨?_, by rw [List.length_append]; have := h.2; simp at this ⊢; omega⟩
  rw [h.1, if_pos rfl, if_pos rfl, List.drop_eq_getElem_cons hk, List.append_assoc]
  rfl
theorem putG_less {l : List ByteArray} {x : ByteArray} {k : Nat} {out : List ByteArray} (h : putG l x k false out) (hk : k < l.length) (hl : bl l[k] x = true) : putG l x (k + 1) false (out ++ [l[k]]) := by
  refine ⟨?_, by rw [List.length_append]; have := h.2; simp at this ⊢; omega⟩
  rw [h.1, if_neg (by decide), if_neg (by decide), List.drop_eq_getElem_cons hk, putN, if_pos hl, List.append_assoc]
  rfl
theorem putG_same {l : List ByteArray} {x : ByteArray} {k : Nat} {out : List ByteArray} (h : putG l x k false out) (hk : k < l.length) (hl : bl l[k] x = false) (he : l[k] = x) : putG l x (k + 1) true (out ++ [l[k]]) := by
  refine ⟨?_, by rw [List.length_append]; have := h.2; simp at this ⊢; omega⟩
  rw [h.1, if_neg (by decide), if_pos rfl, List.drop_eq_getElem_cons hk, putN, if_neg (by rw [hl]; decide), if_pos he, List.append_assoc]
  rfl
theorem putG_new {l : List ByteArray} {x : ByteArray} {k : Nat} {out : List ByteArray} (h : putG l x k false out) (hk : k < l.length) (hl : bl l[k] x = false) (he : l[k] ≠ x) : putG l x (k + 1) true (out ++ [x] ++ [l[k]]) := by
  refine ⟨?_, by rw [List.length_append, List.length_append]; have := h.2; simp at this ⊢; omega⟩
  rw [h.1, if_neg (by decide), if_pos rfl, List.drop_eq_getElem_cons hk, putN, if_neg (by rw [hl]; decide), if_neg he, List.append_assoc, List.append_assoc]
  rfl

set_option linter.unusedSimpArgs false in
set_option maxRecDepth 100000 in
set_option maxHeartbeats 2000000 in
theorem rput_any (K : Nat) (A : Option Addr) (n c : Nat) (l : List ByteArray) (x : ByteArray) (w : World) (h : Sls.Rd w K A n l) (hK : K ≤ w.heap.size) (hn : n ≤ 10000) :
    Calls Tryd.prog 36 #[.slice A n c, .string x] w (NmsP (putN l x) w) := by
  have Hl := hid h.1
  have HG0 : Hid (putG l x 0 false []) := hid ⟨by simp, by simp⟩
  go_enter Tryd.func36, Tryd.ntmps36
  go_wp2_with fail
  go_loopw [5, 6, 7] (fun v dv iv W => ∃ (k m : Nat) (A1 : Option Addr) (c1 : Nat) (d : Bool) (out : List ByteArray), iv = .int .i64 (k : Int) ∧ k ≤ n ∧ v = .slice A1 m c1 ∧ dv = .bool d ∧ Sls.Own W w.heap.size (.slice A1 m c1) m out ∧ Below w.heap.size w W ∧ Hid (putG l x k d out)) (fun _ _ iv _ => n - (intOf iv).toNat)
  case atStart => exact ⟨0, 0, none, 0, false, [], rfl, by omega, rfl, rfl, Sls.Own.nil _ _, Below.refl _ _, HG0⟩
  case round =>
    obtain ⟨k, m, A1, c1, d, out, rfl, hk, rfl, rfl, hO, hb, hG⟩ := hrel
    clear HG0
    have hbs := hb.size
    have hm : m ≤ k + 1 := by
      have h1 := hG.out.2
      have h2 := hO.1
      split at h1 <;> omega
    by_cases hlt : k < n
    · have hkl : k < l.length := by have := Hl.out; omega
      have hki : (k : Int) < (n : Int) := by omega
      obtain ⟨b, o, rfl, hbK, c0⟩ := (h.below (hb.mono hK)).2 k hkl
      have G1 : Hid (d = true → putG l x (k + 1) true (out ++ [l[k]])) := hid fun e => putG_done (e ▸ hG.out) hkl
      have G2 : Hid (d = false → bl l[k] x = true → putG l x (k + 1) false (out ++ [l[k]])) := hid fun e => putG_less (e ▸ hG.out) hkl
      have G3 : Hid (d = false → bl l[k] x = false → l[k] = x → putG l x (k + 1) true (out ++ [l[k]])) := hid fun e => putG_same (e ▸ hG.out) hkl
      have G4 : Hid (d = false → bl l[k] x = false → l[k] ≠ x → putG l x (k + 1) true (out ++ [x] ++ [l[k]])) := hid fun e => putG_new (e ▸ hG.out) hkl
      clear hG
      have hb0 : b < wr.heap.size := by omega
      have HD := hid fun (V : World) (hV : Below w.heap.size w V) => (by obtain ⟨b', o', e, _, q⟩ := (h.below (hV.mono hK)).2 k hkl; injection e with e; injection e with e1 e2; subst e1 e2; exact q : V.cell? ⟨b, o + k, none⟩ = some (.string l[k]))
      generalize l[k] = a at *
      cases d
      · cases hl : bl a x
        · have e1 : Op.bytesLess a.toList x.toList = false := hl
          by_cases he : a = x
          · have e2 : (a.toList == x.toList) = true := by rw [he]; simp
            have HN := hid (G3.out rfl hl he)
            clear G1 G2 G3 G4 hl he
            go_wp2_with (at_builtin; refine Sls.wpList_push wr w.heap.size (.slice A1 m c1) m out a hO hbs (by omega) rfl (.tmp 34) (.tmp 39) rfl rfl rfl ?_; intro v4 w4 ho4 hb4 _ _; obtain ⟨A4, c4, rfl, _⟩ := ho4.reads)
            have hb04 := hb.trans hb4
            clear hb4 hO hb c0
            go_roundw
            · exact ⟨k + 1, m + 1, A4, c4, true, _, by go_num, by omega, rfl, rfl, ho4, hb04, HN⟩
            · simp [intOf]; omega
          · have e2 : (a.toList == x.toList) = false := by
              simp only [beq_eq_false_iff_ne]
              exact fun e => he (tl_inj e)
            have HN := hid (G4.out rfl hl he)
            clear G1 G2 G3 G4 hl he
            go_wp2_with (first | (at_builtin; refine Sls.wpList_push wr w.heap.size (.slice A1 m c1) m out x hO hbs (by omega) rfl (.tmp 30) (.tmp 32) rfl rfl rfl ?_; intro v4 w4 ho4 hb4 _ _; obtain ⟨A4, c4, rfl, _⟩ := ho4.reads; have hb04 := hb.trans hb4; have hz4 := hb04.size; have c4' := HD.out w4 hb04) | (at_builtin; refine Sls.wpList_push w4 w.heap.size (.slice A4 (m + 1) c4) (m + 1) (out ++ [x]) a ho4 hz4 (by omega) rfl (.tmp 34) (.tmp 39) rfl rfl rfl ?_; intro v5 w5 ho5 hb5 _ _; obtain ⟨A5, c5, rfl, _⟩ := ho5.reads))
            have hb05 := hb04.trans hb5
            clear hb5 hb04 hO hb c0
            go_roundw
            · exact ⟨k + 1, m + 1 + 1, A5, c5, true, _, by go_num, by omega, rfl, rfl, ho5, hb05, HN⟩
            · simp [intOf]; omega
        · have e1 : Op.bytesLess a.toList x.toList = true := hl
          have HN := hid (G2.out rfl hl)
          clear G1 G2 G3 G4 hl
          go_wp2_with (at_builtin; refine Sls.wpList_push wr w.heap.size (.slice A1 m c1) m out a hO hbs (by omega) rfl (.tmp 34) (.tmp 39) rfl rfl rfl ?_; intro v4 w4 ho4 hb4 _ _; obtain ⟨A4, c4, rfl, _⟩ := ho4.reads)
          have hb04 := hb.trans hb4
          clear hb4 hO hb c0
          go_roundw
          · exact ⟨k + 1, m + 1, A4, c4, false, _, by go_num, by omega, rfl, rfl, ho4, hb04, HN⟩
          · simp [intOf]; omega
      · have HN := hid (G1.out rfl)
        clear G1 G2 G3 G4
        go_wp2_with (at_builtin; refine Sls.wpList_push wr w.heap.size (.slice A1 m c1) m out a hO hbs (by omega) rfl (.tmp 34) (.tmp 39) rfl rfl rfl ?_; intro v4 w4 ho4 hb4 _ _; obtain ⟨A4, c4, rfl, _⟩ := ho4.reads)
        have hb04 := hb.trans hb4
        clear hb4 hO hb c0
        go_roundw
        · exact ⟨k + 1, m + 1, A4, c4, true, _, by go_num, by omega, rfl, rfl, ho4, hb04, HN⟩
        · simp [intOf]; omega
    · obtain rfl : k = n := by omega
      have hki : ¬ (k : Int) < (k : Int) := by omega
      have hE : Hid (l.drop k = []) := hid (List.drop_eq_nil_iff.2 (by have := Hl.out; omega))
      have hq := hG.out.1
      rw [hE.out] at hq
      clear hG hE
      cases d
      · rw [if_neg (by decide)] at hq
        have hq' : putN l x = out ++ [x] := hq
        have hL := hO.1
        have HQ := hid hq'
        clear hq hq'
        go_wp2_with (at_builtin; refine Sls.wpList_push wr w.heap.size (.slice A1 m c1) m out x hO hbs (by omega) rfl (.tmp 43) (.tmp 45) rfl rfl rfl ?_; intro v4 w4 ho4 hb4 _ _; obtain ⟨A4, c4, rfl, _⟩ := ho4.reads)
        go_ret
        unfold NmsP
        rw [HQ.out, List.length_append, List.length_singleton, hL]
        exact ⟨A4, c4, rfl, ho4, hb.trans hb4⟩
      · rw [if_pos rfl, List.append_nil] at hq
        have hL := hO.1
        have HQ := hid hq
        clear hq
        go_wp2_with fail
        go_ret
        unfold NmsP
        rw [HQ.out, hL]
        exact ⟨A1, c1, rfl, hO, hb⟩
end Go.Proofs.YtndjnmeblpjlhaaDoor.Tab

namespace Go.Proofs.YtndjnmeblpjlhaaDoor.Tab
open Go.RowKit Go.Proofs Go.Proofs.YtndjnmeblpjlhaaDoor.Byt
open Go.Proofs.YtndjnmeblpjlhaaDoor.Obj (Sy RdS SCells)
open Go.Proofs.YtndjnmeblpjlhaaDoor.Bnd

theorem putN_len (l : List ByteArray) (x : ByteArray) : (putN l x).length ≤ l.length + 1 := by
  induction l with
  | nil => simp [putN]
  | cons a r ih =>
    unfold putN
    split
    · simp only [List.length_cons]; omega
    · split <;> simp
/-- The names of the first symbols of an object put among names. -/
def nmJ (acc : List ByteArray) (o : List Sy) (j : Nat) : List ByteArray := ((o.take j).map (·.name)).foldl putN acc
theorem nmJ_step {acc : List ByteArray} {o : List Sy} {j : Nat} (hj : j < o.length) : nmJ acc o (j + 1) = putN (nmJ acc o j) o[j].name := by
  unfold nmJ
  rw [List.take_succ_eq_append_getElem hj, List.map_append, List.foldl_append]
  rfl
theorem fold_len (l acc : List ByteArray) : (l.foldl putN acc).length ≤ acc.length + l.length := by
  induction l generalizing acc with
  | nil => simp
  | cons a r ih =>
    have := ih (putN acc a)
    have := putN_len acc a
    simp only [List.foldl_cons, List.length_cons]
    omega
theorem nmJ_len (acc : List ByteArray) (o : List Sy) (j : Nat) : (nmJ acc o j).length ≤ acc.length + o.length := by
  have := fold_len ((o.take j).map (·.name)) acc
  unfold nmJ
  rw [List.length_map, List.length_take] at this
  omega
theorem nms_take {os : List (List Sy)} {k : Nat} (hk : k < os.length) : nmJ (nms (os.take k)) os[k] os[k].length = nms (os.take (k + 1)) := by
  rw [List.take_succ_eq_append_getElem hk, nms_app]
  unfold nmJ
  rw [List.take_of_length_le (Nat.le_refl _)]
  simp
theorem nms_len : ∀ (os : List (List Sy)), (∀ o ∈ os, o.length ≤ 20) → (nms os).length ≤ 20 * os.length := by
  refine Dec.by_snoc (P := fun os => (∀ o ∈ os, o.length ≤ 20) → (nms os).length ≤ 20 * os.length) (fun _ => by simp [nms]) (fun os o ih h => ?_)
  have h1 := ih fun x hx => h x (List.mem_append_left _ hx)
  have h2 := h o (by simp)
  rw [nms_app, List.length_append, List.length_singleton]
  have := fold_len ([o].flatten.map (·.name)) (nms os)
  simp at this ⊢
  omega

set_option linter.unusedSimpArgs false in
set_option maxRecDepth 100000 in
set_option maxHeartbeats 2000000 in
theorem rnames_any (K : Nat) (A : Option Addr) (n c : Nat) (os : List (List Sy)) (w : World) (h : RdO w K A n os) (hK : K ≤ w.heap.size) (hn : n ≤ 12) (hs : ∀ o ∈ os, o.length ≤ 20) :
    Calls Tryd.prog 20 #[.slice A n c] w (NmsP (nms os) w) := by
  have Hl := hid h.1
  go_enter Tryd.func20, Tryd.ntmps20
  go_wp2_with fail
  go_loopw [3, 4] (fun v iv W => ∃ (k m : Nat) (A1 : Option Addr) (c1 : Nat), iv = .int .i64 (k : Int) ∧ k ≤ n ∧ v = .slice A1 m c1 ∧ Sls.Own W w.heap.size (.slice A1 m c1) m (nms (os.take k)) ∧ Below w.heap.size w W) (fun _ iv _ => n - (intOf iv).toNat)
  case atStart => exact ⟨0, 0, none, 0, rfl, by omega, rfl, Sls.Own.nil _ _, Below.refl _ _⟩
  case round =>
    obtain ⟨k, m, A1, c1, rfl, hk, rfl, hO, hb⟩ := hrel
    by_cases hlt : k < n
    · have hkl : k < os.length := by have := Hl.out; omega
      have hki : (k : Int) < (n : Int) := by omega
      obtain ⟨b, o, rfl, hbK, S, B, p, cs, md, d, q0, _, hob⟩ := h.2 k hkl
      have HC0 := hid fun (V : World) (hV : Below w.heap.size w V) => (hV.cell (p := ⟨b, o + k * 2, none⟩) (by show b < _; omega)).trans q0
      have HS := hid fun (V : World) (hV : Below w.heap.size w V) => hob.s.below (hV.mono hK)
      have Hp := hid hob.s.1
      have hp20 : p ≤ 20 := by rw [← Hp.out]; exact hs _ (List.getElem_mem hkl)
      have HE := hid (nms_take hkl)
      have HA : (nms (os.take k)).length ≤ 240 := by
        have h1 := nms_len (os.take k) fun x hx => hs x (List.mem_of_mem_take hx)
        rw [List.length_take] at h1
        omega
      obtain ⟨acc1, ha1⟩ : ∃ a, nms (os.take (k + 1)) = a := ⟨_, rfl⟩
      rw [ha1] at HE
      have HA1 := hid ha1
      clear ha1
      generalize nms (os.take k) = acc at *
      generalize os[k] = ob at *
      have c0 := HC0.out wr hb
      clear hob q0
      go_wp2_with fail
      go_loopw [3, 5] (fun v jv W => ∃ (j m2 : Nat) (A2 : Option Addr) (c2 : Nat), jv = .int .i64 (j : Int) ∧ j ≤ p ∧ v = .slice A2 m2 c2 ∧ Sls.Own W w.heap.size (.slice A2 m2 c2) m2 (nmJ acc ob j) ∧ Below w.heap.size w W) (fun _ jv _ => p - (intOf jv).toNat)
      case atStart => exact ⟨0, m, A1, c1, rfl, by omega, rfl, hO, hb⟩
      case round =>
        clear hO hb c0
        obtain ⟨j, m2, A2, c2, rfl, hj, rfl, hO2, hb2⟩ := hrel
        have c0 := HC0.out wr hb2
        by_cases hjt : j < p
        · have hjl : j < ob.length := by have := Hp.out; omega
          have hji : (j : Int) < (p : Int) := by omega
          obtain ⟨⟨b2, o2, rfl, hbK2, hcell⟩, _⟩ := (HS.out wr hb2).2 j hjl
          have p0 := hcell.1
          have HN := hid (nmJ_step (acc := acc) hjl)
          obtain ⟨A', c', e, hr, _, _⟩ := id hO2.reads
          injection e with e1 _ e3
          subst e1 e3
          have hm2 : m2 ≤ 10000 := by
            have h1 := nmJ_len acc ob j
            have h2 := hO2.1
            have := Hp.out
            omega
          have HPut := hid (rput_any wr.heap.size A2 m2 c2 (nmJ acc ob j) ob[j].name wr hr (Nat.le_refl _) hm2)
          generalize ob[j].name = nm at *
          clear hcell hr hO2
          go_wp2_with fail
          refine HPut.out.mono ?_
          rintro e w4 ⟨A4, c4, rfl, ho4, hb4⟩
          rw [← HN.out] at ho4 ⊢
          have ho4' := ho4.more hb2.size
          have hb24 := hb2.trans (hb4.mono hb2.size)
          clear ho4 hb4 hb2 c0 p0
          go_wp2_with fail
          go_roundw
          · exact ⟨j + 1, _, A4, c4, by go_num, by omega, rfl, ho4', hb24⟩
          · simp [intOf]; omega
        · obtain rfl : j = p := by omega
          have hji : ¬ (j : Int) < (j : Int) := by omega
          have hO3 : Sls.Own wr w.heap.size (.slice A2 m2 c2) m2 (nms (os.take (k + 1))) := by rw [HA1.out, ← HE.out, Hp.out]; exact hO2
          go_wp2_with fail
          go_roundw
          · exact ⟨k + 1, m2, A2, c2, by go_num, by omega, rfl, hO3, hb2⟩
          · simp [intOf]; omega
    · obtain rfl : k = n := by omega
      have hki : ¬ (k : Int) < (k : Int) := by omega
      rw [List.take_of_length_le (by have := Hl.out; omega)] at hO
      have hL := hO.1
      go_wp2_with fail
      go_ret
      unfold NmsP
      rw [hL]
      exact ⟨A1, c1, rfl, hO, hb⟩
end Go.Proofs.YtndjnmeblpjlhaaDoor.Tab
