/-
  symtab's reference: State.
  symtab's reference: Wanted.
-/
import Derived.Test.YtbcjbembhajgcaaDoorZVb
import Derived.Test.YtbcjbembhajgcaaDoorZBi
namespace Go.Proofs.YtbcjbembhajgcaaDoor.Tab
open Go.RowKit Go.Proofs Go.Proofs.YtbcjbembhajgcaaDoor.Byt
open Go.Proofs.YtbcjbembhajgcaaDoor.Obj (Sy RdS SCells)
open Go.Proofs.YtbcjbembhajgcaaDoor.Bnd

theorem us1_step {nm : ByteArray} {i j : Nat} {o : List Sy} (hj : j < o.length) : us1 nm i (o.take (j + 1)) = us1 nm i (o.take j) ++ (if o[j].name = nm then [⟨o[j], (i : Int)⟩] else []) := by
  unfold us1
  rw [List.take_succ_eq_append_getElem hj, List.filter_append, List.map_append]
  congr 1
  by_cases h : o[j].name = nm <;> simp [h]
theorem us1_zero (nm : ByteArray) (i : Nat) (o : List Sy) : us1 nm i (o.take 0) = [] := rfl
theorem us1_len (nm : ByteArray) (i : Nat) (o : List Sy) : (us1 nm i o).length ≤ o.length := by
  unfold us1
  rw [List.length_map]
  exact List.length_filter_le _ _
theorem uses_take {os : List (List Sy)} {nm : ByteArray} {k : Nat} (hk : k < os.length) : uses (os.take (k + 1)) nm = uses (os.take k) nm ++ us1 nm k os[k] := by
  rw [List.take_succ_eq_append_getElem hk, uses_snoc, List.length_take, Nat.min_eq_left (Nat.le_of_lt hk)]
theorem uses_len (nm : ByteArray) : ∀ (os : List (List Sy)), (∀ o ∈ os, o.length ≤ 20) → (uses os nm).length ≤ 20 * os.length := by
  refine Dec.by_snoc (P := fun os => (∀ o ∈ os, o.length ≤ 20) → (uses os nm).length ≤ 20 * os.length) (fun _ => by simp [uses, usK]) (fun os o ih h => ?_)
  have h1 := ih fun x hx => h x (List.mem_append_left _ hx)
  have h2 := h o (by simp)
  have h3 := us1_len nm os.length o
  rw [uses_snoc, List.length_append, List.length_append, List.length_singleton]
  omega
def zS : Array Value := #[.int .i64 0, .int .i64 0, .int .i64 0, .int .i64 0, .bool false, .bool false, .bool false, .slice none 0 0]

set_option linter.unusedSimpArgs false in
set_option maxRecDepth 100000 in
set_option maxHeartbeats 4000000 in
theorem rstate_any (K : Nat) (A : Option Addr) (n c : Nat) (os : List (List Sy)) (nm : ByteArray) (w : World) (h : RdO w K A n os) (hK : K ≤ w.heap.size) (hn : n ≤ 12) (hs : ∀ o ∈ os, o.length ≤ 20) :
    Calls Tryd.prog 21 #[.slice A n c, .string nm] w (StP (ofL (uses os nm)) w) := by
  have Hl := hid h.1
  have hbW := (Below.refl w.heap.size w).alloc (Nat.le_refl _) (.cells zS 60)
  have hnW := heap_alloc_new w (.cells zS 60)
  have hzW := World.size_alloc w (.cells zS 60)
  unfold zS at hbW hnW hzW
  go_enter Tryd.func21, Tryd.ntmps21
  go_wp2_with fail
  generalize w.alloc (.cells #[.int .i64 0, .int .i64 0, .int .i64 0, .int .i64 0, .bool false, .bool false, .bool false, .slice none 0 0] 60) = W0 at *
  obtain ⟨g, hg⟩ : ∃ g, w.heap.size = g := ⟨_, rfl⟩
  rw [hg] at hnW hzW
  rw [hg]
  have HG := hid hg
  have hKW : K ≤ W0.heap.size := by omega
  have h0 := h.below (hbW.mono hK)
  have HB := hid fun (V : World) (hV : Below W0.heap.size W0 V) => hbW.trans (hV.mono hbW.size)
  have HV := hid fun (V : World) (hV : Below W0.heap.size W0 V) => (hV.block g (by omega)).trans hnW
  clear hbW hnW hg h
  go_loopw [5, 6] (fun v iv W => ∃ (k m : Nat) (A1 : Option Addr) (c1 : Nat), iv = .int .i64 (k : Int) ∧ k ≤ n ∧ v = .slice A1 m c1 ∧ Cel.Own 78 5 W W0.heap.size (.slice A1 m c1) m (ucells (uses (os.take k) nm)) ∧ Below W0.heap.size W0 W) (fun _ iv _ => n - (intOf iv).toNat)
  case atStart => exact ⟨0, 0, none, 0, rfl, by omega, rfl, Cel.Own.nil _ _ _ _, Below.refl _ _⟩
  case round =>
    obtain ⟨k, m, A1, c1, rfl, hk, rfl, hO, hb⟩ := hrel
    by_cases hlt : k < n
    · have hkl : k < os.length := by have := Hl.out; omega
      have hki : (k : Int) < (n : Int) := by omega
      obtain ⟨b, o, rfl, hbK, S, B, p, cs, md, d, q0, _, hob⟩ := h0.2 k hkl
      have HC0 := hid fun (V : World) (hV : Below W0.heap.size W0 V) => (hV.cell (p := ⟨b, o + k * 2, none⟩) (by show b < _; omega)).trans q0
      have HS := hid fun (V : World) (hV : Below W0.heap.size W0 V) => hob.s.below (hV.mono hKW)
      have Hp := hid hob.s.1
      have hp20 : p ≤ 20 := by rw [← Hp.out]; exact hs _ (List.getElem_mem hkl)
      have HE := hid (uses_take (nm := nm) hkl)
      have HA : (uses (os.take k) nm).length ≤ 240 := by
        have h1 := uses_len nm (os.take k) fun x hx => hs x (List.mem_of_mem_take hx)
        rw [List.length_take] at h1
        omega
      have HF := hid (List.take_of_length_le (Nat.le_refl os[k].length))
      generalize uses (os.take k) nm = acc at *
      generalize os[k] = ob at *
      have c0 := HC0.out wr hb
      clear hob q0
      go_wp2_with fail
      go_loopw [5, 7] (fun v jv W => ∃ (j m2 : Nat) (A2 : Option Addr) (c2 : Nat), jv = .int .i64 (j : Int) ∧ j ≤ p ∧ v = .slice A2 m2 c2 ∧ Cel.Own 78 5 W W0.heap.size (.slice A2 m2 c2) m2 (ucells (acc ++ us1 nm k (ob.take j))) ∧ Below W0.heap.size W0 W) (fun _ jv _ => p - (intOf jv).toNat)
      case atStart => exact ⟨0, m, A1, c1, rfl, by omega, rfl, by rw [us1_zero, List.append_nil]; exact hO, hb⟩
      case round =>
        clear hO hb c0
        obtain ⟨j, m2, A2, c2, rfl, hj, rfl, hO2, hb2⟩ := hrel
        have c0 := HC0.out wr hb2
        have hbs := hb2.size
        by_cases hjt : j < p
        · have hjl : j < ob.length := by have := Hp.out; omega
          have hji : (j : Int) < (p : Int) := by omega
          obtain ⟨⟨b2, o2, rfl, hbK2, hcell⟩, _⟩ := (HS.out wr hb2).2 j hjl
          have HN := hid (us1_step (nm := nm) (i := k) hjl)
          have hm2 : m2 ≤ 10000 := by
            have h1 := us1_len nm k (ob.take j)
            have h2 := hO2.1
            have := Hp.out
            rw [ucells_length, List.length_append] at h2
            rw [List.length_take] at h1
            omega
          generalize ob[j] = x at *
          obtain ⟨x0, x1, x2, x3⟩ := x
          obtain ⟨p0, p1, p2, p3⟩ := hcell
          simp only at *
          by_cases he : x0 = nm
          · have e2 : (x0.toList == nm.toList) = true := by rw [he]; simp
            have HN1 : Hid (us1 nm k (ob.take (j + 1)) = us1 nm k (ob.take j) ++ [⟨⟨x0, x1, x2, x3⟩, (k : Int)⟩]) := hid (by rw [HN.out, if_pos he])
            clear HN he
            go_wp2_with (at_builtin; go_must (refine Cel.wpList_push kU wr W0.heap.size (.slice A2 m2 c2) m2 _ hO2 hbs 1 1 #[.string x0, .int .i64 x1, .int .i64 x2, .int .i64 x3, .int .i64 (k : Int)] (0, 0) rfl (by simp [Value.oneCell']) (by omega) (by omega) rfl (.tmp 35) (.tmp 46) rfl rfl rfl ?_); intro v4 w4 ho4 hb4 _ _; obtain ⟨A4, c4, rfl, _⟩ := ho4.reads)
            have hb24 := hb2.trans hb4
            have ho5 : Cel.Own 78 5 w4 W0.heap.size (.slice A4 (m2 + 1) c4) (m2 + 1) (ucells (acc ++ us1 nm k (ob.take (j + 1)))) := by
              rw [HN1.out, ← List.append_assoc, ucells_append]
              exact ho4
            clear ho4 hb4 hb2 hO2 c0 p0 p1 p2 p3
            go_roundw
            · exact ⟨j + 1, m2 + 1, A4, c4, by go_num, by omega, rfl, ho5, hb24⟩
            · simp [intOf]; omega
          · have e2 : (x0.toList == nm.toList) = false := by
              simp only [beq_eq_false_iff_ne]
              exact fun e => he (tl_inj e)
            have HN1 : Hid (us1 nm k (ob.take (j + 1)) = us1 nm k (ob.take j)) := hid (by rw [HN.out, if_neg he, List.append_nil])
            clear HN he
            go_wp2_with fail
            go_roundw
            · exact ⟨j + 1, m2, A2, c2, by go_num, by omega, rfl, by rw [HN1.out]; exact hO2, hb2⟩
            · simp [intOf]; omega
        · obtain rfl : j = p := by omega
          have hji : ¬ (j : Int) < (j : Int) := by omega
          have hO3 : Cel.Own 78 5 wr W0.heap.size (.slice A2 m2 c2) m2 (ucells (uses (os.take (k + 1)) nm)) := by
            rw [HE.out]
            have e : ob.take j = ob := by rw [← Hp.out]; exact HF.out
            rw [← e]
            exact hO2
          go_wp2_with fail
          go_roundw
          · exact ⟨k + 1, m2, A2, c2, by go_num, by omega, rfl, hO3, hb2⟩
          · simp [intOf]; omega
    · obtain rfl : k = n := by omega
      have hki : ¬ (k : Int) < (k : Int) := by omega
      rw [List.take_of_length_le (by have := Hl.out; omega)] at hO
      obtain ⟨A', c', e, hr, _, _⟩ := id hO.reads
      injection e with e1 _ e3
      subst e1 e3
      have hm : m ≤ 100000 := by
        have h1 := uses_len nm os hs
        have h2 := hO.1
        have := Hl.out
        rw [ucells_length] at h2
        omega
      have HOf := hid (of_any wr.heap.size A1 m c1 (uses os nm) wr (rdu_of hr) (Nat.le_refl _) hm)
      clear hr hO
      go_wp2_with fail
      refine HOf.out.mono ?_
      rintro e w5 ⟨v5, rfl, o5, hb5⟩
      have hb05 := hb.trans (hb5.mono hb.size)
      have hv := HV.out w5 hb05
      have hv5 := pl_slice o5.pl
      generalize ofL (uses os nm) = T at *
      have o5' := o5.more hb.size
      unfold St.val
      go_wp2_with (refine stR rfl _ _ rfl g _ rfl rfl _ hv rfl rfl (row_one hv5) ?_)
      refine retR (g := g) rfl rfl rfl (setRow_heap _ _ _ _ _ _ hv) rfl ⟨v5, rfl, ?_, below_setRow' (HB.out w5 hb05) (by have := HG.out; omega) _⟩
      exact (OwnI.keep o5' fun q hq _ => setRow_other _ _ _ _ (by omega)).more (by have := HG.out; omega)
end Go.Proofs.YtbcjbembhajgcaaDoor.Tab

namespace Go.Proofs.YtbcjbembhajgcaaDoor.Tab
open Go.RowKit Go.Proofs Go.Proofs.YtbcjbembhajgcaaDoor.Byt
open Go.Proofs.YtbcjbembhajgcaaDoor.Obj (Sy RdS SCells)
open Go.Proofs.YtbcjbembhajgcaaDoor.Bnd

/-- The names that are wanted. -/
def wntL (os : List (List Sy)) : List ByteArray := (nms os).filter fun x => wantd (ofL (uses os x))
end Go.Proofs.YtbcjbembhajgcaaDoor.Tab
