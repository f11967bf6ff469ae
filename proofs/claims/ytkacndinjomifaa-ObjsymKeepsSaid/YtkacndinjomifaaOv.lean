/-
  ObjsymKeeps: arguments are not modified, and results do not share memory with them. For every object and every byte slice: no condition.
-/
import Derived.Test.YtkacndinjomifaaOr
import Derived.Test.YtkacndinjomifaaOs
import Derived.Test.YtkacndinjomifaaOx
namespace Go.Proofs.Ytkacndinjomifaa.Keeps
open Go.ChangeShapes Go.WideShapes Go.ChangeAt Go.RowKit Go.Proofs Go.Proofs.Ytkacndinjomifaa.Byt Go.Proofs.Ytkacndinjomifaa.Obj Go.Proofs.Ytkacndinjomifaa.Frame

theorem enc_owned {xs : List Sy} {body : List UInt8} {w w' : World} {e : Ending} (h : Encodes xs body w e w') (hx : xs.length ≤ 60) (hy : body.length ≤ 1000) :
    ∃ A n c z L, e = .returned (.tuple #[.slice A n c, .int .i64 z]) ∧ Byt.Own w' w.heap.size (.slice A n c) n L ∧ n ≤ 20000 ∧ Below w.heap.size w w' := by
  cases hv : validO xs
  · obtain ⟨rfl, hb⟩ := h.no hv
    exact ⟨none, 0, 0, 12, [], rfl, Byt.Own.nil _ _, by omega, hb⟩
  · obtain ⟨A, n, c, rfl, hn, ho, _, _, _, hb⟩ := h.ok hv
    have := encO_len (body := body) hv
    exact ⟨A, n, c, 0, _, rfl, ho, by omega, hb⟩

set_option linter.unusedSimpArgs false in
set_option maxRecDepth 100000 in
set_option maxHeartbeats 8000000 in
theorem walk (w : World) (A : Option Addr) (n c : Nat) (B : Option Addr) (m d : Nat) (xs : List Sy) (body : List UInt8) (h : RdS w w.heap.size A n xs) (hB : Byt.Rd w w.heap.size B m body) (_hnc : n ≤ c) (_hc : c ≤ maxLen) (_hmd : m ≤ d) (_hd : d ≤ maxLen) (A' : Option Addr) (n' c' : Nat) (l : List UInt8) (hr : Byt.Rd w w.heap.size A' n' l) (hnc' : n' ≤ c') (hc' : c' ≤ maxLen) :
    Calls Try.prog 7 #[.agg #[.slice A n c, .slice B m d], .slice A' n' c'] w fun e w' => e = .returned (.bool true) ∧ Below w.heap.size w w' := by
  have i0 := In.start w A n c B m d
  go_enter Try.func7, Try.ntmps7
  go_wp2_with fail
  refine (awake_any _).mono ?_
  rintro e w1 ⟨rfl, hb1⟩
  have i1 := i0.on hb1
  have q0 := i1.c0
  have q1 := i1.c1
  clear hb1 i0
  go_wp2_with fail
  refine (rfew_any w.heap.size A B n c m d xs w1 (h.below i1.b) i1.b.size).mono ?_
  rintro e w2 ⟨rfl, hb2⟩
  have i2 := i1.on hb2
  clear q0 q1 hb2 i1
  cases hf : fewO xs m
  · go_wp2_with fail
    refine (awake_any _).mono ?_
    rintro e w9 ⟨rfl, hb9⟩
    go_wp2_with fail
    go_ret
    exact ⟨rfl, (i2.on hb9).b⟩
  · obtain ⟨k1, k2, k3⟩ := fewO_iff.1 hf
    have hl := hid h.1
    have hlB := hid hB.1
    have hn60 : n ≤ 60 := by have := hl.out; omega
    clear hf
    have hnm : ∀ x ∈ xs, x.name.size ≤ maxLen := fun x hx => by have := k3 x hx; unfold maxLen; omega
    by_cases h5 : 5000 < n'
    · have h5i : (5000 : Int) < (n' : Int) := by omega
      go_wp2_with fail
      refine (awake_any _).mono ?_
      rintro e w9 ⟨rfl, hb9⟩
      go_wp2_with fail
      go_ret
      exact ⟨rfl, (i2.on hb9).b⟩
    · have h5i : ¬ (5000 : Int) < (n' : Int) := by omega
      have hlt2 := i2.lt
      have hba := (Below.refl w2.heap.size w2).alloc (Nat.le_refl _) (.cells #[] 5)
      have hra := (hr.below i2.b).below (hba.mono i2.b.size)
      go_upto_region 4 with (at_builtin; go_must (refine wpList_app2 (w2.alloc (.cells #[] 5)) w2.heap.size _ 0 [] (Byt.Own.lit0 w2 w2.heap.size (Nat.le_refl _)) hba.size A' n' c' w.heap.size l hra (by omega) rfl (.tmp 26) (.tmp 27) rfl rfl rfl ?_); intro v3 w3 ho3 hb3 _; obtain ⟨A3, c3, rfl, _⟩ := ho3.reads)
      rw [Nat.zero_add, List.nil_append] at ho3
      obtain ⟨_, _, e3, hr3, _⟩ := ho3.reads
      injection e3 with e31 _ e33
      subst e31 e33
      have i3 := i2.above hlt2 (hba.trans hb3)
      clear hba hra hb3 ho3 i2 hlt2
      go_wp2_with fail
      refine (decode_any w.heap.size A' n' c' l w3 (hr.below i3.b) i3.b.size hnc' hc' (by omega)).mono ?_
      rintro e w4 hD
      obtain ⟨A5, n5, c5, B5, m5, d5, rfl, _, _, _, _, hm5, oB5, _, hb4⟩ := hD.reads
      have i4 := i3.on hb4
      generalize (decO l).1 = z5 at *
      generalize (decO l).2.2 = L5 at *
      have hr4 := hr3.below hb4
      have hb5 := (Below.refl w4.heap.size w4).alloc (Nat.le_refl _) (.cells #[.slice A5 n5 c5, .slice B5 m5 d5] 25)
      have hrowP := heap_alloc_new w4 (.cells #[.slice A5 n5 c5, .slice B5 m5 d5] 25)
      have i5 := i4.on hb5
      have oB5' := oB5.alloc (.cells #[.slice A5 n5 c5, .slice B5 m5 d5] 25)
      have hr5 := hr4.below (hb5.mono hb4.size)
      have hlt3 := i3.lt
      have hr5K := Nat.le_trans hb4.size hb5.size
      have hlr := hid hr.1
      have hm5b : m5 ≤ 5000 := by have := hlr.out; omega
      clear hD hb4 hb5 i4 hr4 oB5 hr3 i3 hm5
      go_upto_region 5 with fail
      generalize w4.alloc (.cells #[.slice A5 n5 c5, .slice B5 m5 d5] 25) = V5 at *
      generalize w4.heap.size = P at *
      obtain ⟨K, hK⟩ : ∃ K, w3.heap.size = K := ⟨_, rfl⟩
      rw [hK] at oB5' hr5 hlt3 hr5K
      clear hK
      go_wp2_with fail
      go_loopw [8] (fun i W => ∃ j : Nat, i = .int .i64 (j : Int) ∧ j ≤ m5 ∧ Same K V5 W) (fun i _ => m5 - (intOf i).toNat)
      case atStart => exact ⟨0, rfl, Nat.zero_le _, Same.refl _ _⟩
      case round =>
        obtain ⟨j, rfl, hjn, hS⟩ := hrel
        have b1 : wr.cell? ⟨P, 1, none⟩ = some (.slice B5 m5 d5) := (hS.cell (j := 1) hrowP (by decide)).trans rfl
        by_cases hj : j < m5
        · have hji : (j : Int) < (m5 : Int) := by omega
          obtain ⟨g3, o3, x, rfl, hnc3, hx, hf, hput⟩ := hS.at_ oB5' hj
          go_wp2_with fail
          go_roundw
          all_goals first
            | exact ⟨j + 1, by go_num, by omega, hput _⟩
            | (simp [intOf]; done)
            | (simp [intOf]; omega)
        · have hji : ¬ (j : Int) < (m5 : Int) := by omega
          have iV := i5.above hlt3 hS.1
          have hrV := hr5.below hS.1
          have hKV : K ≤ wr.heap.size := by have := hS.1.size; have := (Array.getElem?_eq_some_iff.1 hrowP).1; have := hr5K; omega
          clear hS i5 hr5 oB5' hrowP hlt3 h5i
          go_upto_region 9 with fail
          generalize wr = V at *
          have hSall : Hid (∀ W, Below V.heap.size V W → (W.cell? ⟨w.heap.size, 0, none⟩ = some (.slice A n c) ∧ W.cell? ⟨w.heap.size, 1, none⟩ = some (.slice B m d))) := hid fun W hW => ⟨(iV.on hW).c0, (iV.on hW).c1⟩
          go_cut [9] from 48 to 56 (fun s9 wx => ∃ g A7 c7 B7 d7, s9 = .pointer (some ⟨g, 0, none⟩) ∧ wx.heap[g]? = some (.cells #[.slice A7 n c7, .slice B7 m d7] 25 (0, 0)) ∧ V.heap.size ≤ g ∧ Cel.Own 38 4 wx V.heap.size (.slice A7 n c7) n (scells xs) ∧ Byt.Own wx V.heap.size (.slice B7 m d7) m body ∧ Below V.heap.size V wx)
          case first =>
            clear b1
            refine Ord.Till.begin (fun W => W.cell? ⟨w.heap.size, 0, none⟩ = some (.slice A n c) ∧ W.cell? ⟨w.heap.size, 1, none⟩ = some (.slice B m d)) 60 (by kernel_rfl) ?_
            have hb : Below V.heap.size V V.drew := (Below.refl _ _).drew
            generalize V.drew = y0 at *
            refine Ord.Till.take' 1 (some 49) (oi := _) (x := ?_) rfl rfl (by kernel_rfl) (by kernel_rfl) (by kernel_rfl) (by kernel_rfl) (fun _ _ _ h => h) (by kernel_rfl) ?_ (hSall.out _ hb) ?_
            rotate_left 1
            · intro v hv; obtain ⟨z0, z1⟩ := hv; go_simp; first | done | with_reducible rfl
            try simp only [Act.put, List.setIfInBounds_toArray, List.set_cons_zero, List.set_cons_succ]
            refine Ord.Till.take' 2 (some 50) (oi := _) (x := ?_) rfl rfl (by kernel_rfl) (by kernel_rfl) (by kernel_rfl) (by kernel_rfl) (fun _ _ _ h => h) (by kernel_rfl) ?_ (hSall.out _ hb) ?_
            rotate_left 1
            · intro v hv; obtain ⟨z0, z1⟩ := hv; go_simp; first | done | with_reducible rfl
            try simp only [Act.put, List.setIfInBounds_toArray, List.set_cons_zero, List.set_cons_succ]
            refine Ord.Till.take' 5 (some 53) (oi := _) (x := ?_) rfl rfl (by kernel_rfl) (by kernel_rfl) (by kernel_rfl) (by kernel_rfl) (fun _ _ _ h => h) (by kernel_rfl) ?_ (hSall.out _ hb) ?_
            rotate_left 1
            · intro v hv; obtain ⟨z0, z1⟩ := hv; go_simp; first | done | with_reducible rfl
            try simp only [Act.put, List.setIfInBounds_toArray, List.set_cons_zero, List.set_cons_succ]
            refine Ord.Till.take' 6 (some 54) (oi := _) (x := ?_) rfl rfl (by kernel_rfl) (by kernel_rfl) (by kernel_rfl) (by kernel_rfl) (fun _ _ _ h => h) (by kernel_rfl) ?_ (hSall.out _ hb) ?_
            rotate_left 1
            · intro v hv; obtain ⟨z0, z1⟩ := hv; go_simp; first | done | with_reducible rfl
            try simp only [Act.put, List.setIfInBounds_toArray, List.set_cons_zero, List.set_cons_succ]
            refine Ord.Till.three 0 4 9 (by kernel_rfl) rfl rfl rfl (fun C hC => ?_) (fun C hC => ?_) (fun C hC => ?_)
            · go_simp
              have hb' := hb.alloc hb.size (.cells #[] 38)
              have o_S := syms_lit0 y0 V.heap.size hb.size
              refine hC.out _ _ (fun _ => hSall.out _ hb') ?_
              clear hC C
              try simp only [List.getElem_toArray, List.getElem_cons_zero, List.getElem_cons_succ, Act.put, List.setIfInBounds_toArray, List.set_cons_zero, List.set_cons_succ]
              clear hb
              have hb := hb'
              clear hb'
              generalize y0.alloc (.cells #[] 38) = y1 at *
              generalize y0.heap.size = g1 at *
              refine Ord.Till.three 3 4 9 (by kernel_rfl) rfl rfl rfl (fun C hC => ?_) (fun C hC => ?_) (fun C hC => ?_)
              · refine step_syms y1 V.heap.size _ 0 [] o_S hb.size A n c w.heap.size xs (h.below (iV.on hb).b) (by omega) (by rfl) _ _ (by rfl) (by rfl) (by rfl) ?_
                intro v2 y2 o_S' hb' ho' hf'
                rw [Nat.zero_add, List.nil_append] at o_S'
                obtain ⟨AS, cS, rfl, _⟩ := o_S'.reads
                clear o_S
                have o_S := o_S'
                replace hb := hb.trans hb'
                clear hb' ho' hf' o_S'
                refine hC.out _ _ (fun _ => hSall.out _ hb) ?_
                clear hC C
                try simp only [List.getElem_toArray, List.getElem_cons_zero, List.getElem_cons_succ, Act.put, List.setIfInBounds_toArray, List.set_cons_zero, List.set_cons_succ]
                refine Ord.Till.two 4 9 (by kernel_rfl) rfl rfl (fun C hC => ?_) (fun C hC => ?_)
                · go_simp
                  have hb' := hb.alloc hb.size (.cells #[] 5)
                  replace o_S := o_S.alloc (.cells #[] 5)
                  have o_B := Byt.Own.lit0 y2 V.heap.size hb.size
                  refine hC.out _ _ (fun _ => hSall.out _ hb') ?_
                  clear hC C
                  try simp only [List.getElem_toArray, List.getElem_cons_zero, List.getElem_cons_succ, Act.put, List.setIfInBounds_toArray, List.set_cons_zero, List.set_cons_succ]
                  clear hb
                  have hb := hb'
                  clear hb'
                  generalize y2.alloc (.cells #[] 5) = y3 at *
                  generalize y2.heap.size = g3 at *
                  refine Ord.Till.two 7 9 (by kernel_rfl) rfl rfl (fun C hC => ?_) (fun C hC => ?_)
                  · refine step_app2 y3 V.heap.size _ 0 [] o_B hb.size B m d w.heap.size body (hB.below (iV.on hb).b) (by omega) (by rfl) _ _ (by rfl) (by rfl) (by rfl) ?_
                    intro v4 y4 o_B' hb' ho'
                    rw [Nat.zero_add, List.nil_append] at o_B'
                    obtain ⟨AB, cB, rfl, _⟩ := o_B'.reads
                    clear o_B
                    have o_B := o_B'
                    replace o_S := o_S.oth ho' (by decide)
                    replace hb := hb.trans hb'
                    clear hb' ho' o_B'
                    refine hC.out _ _ (fun _ => hSall.out _ hb) ?_
                    clear hC C
                    try simp only [List.getElem_toArray, List.getElem_cons_zero, List.getElem_cons_succ, Act.put, List.setIfInBounds_toArray, List.set_cons_zero, List.set_cons_succ]
                    refine Ord.Till.take' 8 (some 56) (oi := _) (x := ?_) rfl rfl (by kernel_rfl) (by kernel_rfl) (by kernel_rfl) (by kernel_rfl) (fun _ _ _ h => h) (by kernel_rfl) ?_ (hSall.out _ hb) ?_
                    rotate_left 1
                    · intro v hv; obtain ⟨z0, z1⟩ := hv; go_simp; first | done | with_reducible rfl
                    try simp only [Act.put, List.setIfInBounds_toArray, List.set_cons_zero, List.set_cons_succ]
                    refine Ord.Till.step 9 (by kernel_rfl) rfl (fun C hC => ?_)
                    go_simp
                    have hb' := hb.alloc hb.size (.cells #[.slice none 0 0, .slice none 0 0] 25)
                    replace o_S := o_S.alloc (.cells #[.slice none 0 0, .slice none 0 0] 25)
                    replace o_B := o_B.alloc (.cells #[.slice none 0 0, .slice none 0 0] 25)
                    have row := heap_alloc_new y4 (.cells #[.slice none 0 0, .slice none 0 0] 25)
                    have hR := hb.size
                    refine hC.out _ _ (fun _ => hSall.out _ hb') ?_
                    clear hC C
                    try simp only [List.getElem_toArray, List.getElem_cons_zero, List.getElem_cons_succ, Act.put, List.setIfInBounds_toArray, List.set_cons_zero, List.set_cons_succ]
                    clear hb
                    have hb := hb'
                    clear hb'
                    generalize y4.alloc (.cells #[.slice none 0 0, .slice none 0 0] 25) = y5 at *
                    generalize y4.heap.size = g5 at *
                    have k0 := cell_of_row _ _ 0 _ _ _ row
                    have k1 := cell_of_row _ _ 1 _ _ _ row
                    have kf := fun o => frozen_of_row _ _ o _ _ row
                    have row1 := heap_setCell_same _ _ 0 _ _ (.slice AS n cS) row
                    have hrz := put2_row row (.slice AS n cS) (.slice AB m cB)
                    have hbz := put2_below hb hR (.slice AS n cS) (.slice AB m cB)
                    have oSz := (o_S.setc row (by decide) 0 (.slice AS n cS)).setc row1 (by decide) 1 (.slice AB m cB)
                    have oBz := (o_B.oth (Sls.Oth.put row (fun j hj => Below.heap_setCell _ ⟨_, 0, none⟩ (.slice AS n cS) j hj)) (by decide)).oth (Sls.Oth.put row1 (fun j hj => Below.heap_setCell _ ⟨_, 1, none⟩ (.slice AB m cB) j hj)) (by decide)
                    unfold put2 at hrz hbz
                    refine Ord.Till.step 10 (by kernel_rfl) rfl (fun C hC => ?_)
                    go_simp
                    refine hC.out _ _ (fun _ => hSall.out _ hbz) ?_
                    clear hC C
                    try simp only [List.getElem_toArray, List.getElem_cons_zero, List.getElem_cons_succ, Act.put, List.setIfInBounds_toArray, List.set_cons_zero, List.set_cons_succ]
                    refine Ord.Till.done (by kernel_rfl) ?_ _
                    clear k0 k1 kf
                    go_wp2_with fail
                    go_meet
                    exact ⟨_, AS, cS, AB, cB, rfl, hrz, hR, oSz, oBz, hbz⟩
                  · go_simp
                    have hb' := hb.alloc hb.size (.cells #[.slice none 0 0, .slice none 0 0] 25)
                    replace o_S := o_S.alloc (.cells #[.slice none 0 0, .slice none 0 0] 25)
                    replace o_B := o_B.alloc (.cells #[.slice none 0 0, .slice none 0 0] 25)
                    have row := heap_alloc_new y3 (.cells #[.slice none 0 0, .slice none 0 0] 25)
                    have hR := hb.size
                    refine hC.out _ _ (fun _ => hSall.out _ hb') ?_
                    clear hC C
                    try simp only [List.getElem_toArray, List.getElem_cons_zero, List.getElem_cons_succ, Act.put, List.setIfInBounds_toArray, List.set_cons_zero, List.set_cons_succ]
                    clear hb
                    have hb := hb'
                    clear hb'
                    generalize y3.alloc (.cells #[.slice none 0 0, .slice none 0 0] 25) = y6 at *
                    generalize y3.heap.size = g6 at *
                    refine Ord.Till.step 7 (by kernel_rfl) rfl (fun C hC => ?_)
                    refine step_app2 y6 V.heap.size _ 0 [] o_B hb.size B m d w.heap.size body (hB.below (iV.on hb).b) (by omega) (by rfl) _ _ (by rfl) (by rfl) (by rfl) ?_
                    intro v7 y7 o_B' hb' ho'
                    rw [Nat.zero_add, List.nil_append] at o_B'
                    obtain ⟨AB, cB, rfl, _⟩ := o_B'.reads
                    clear o_B
                    have o_B := o_B'
                    replace o_S := o_S.oth ho' (by decide)
                    replace row := ho' _ _ row (fun _ _ e => by simp at e)
                    replace hb := hb.trans hb'
                    clear hb' ho' o_B'
                    refine hC.out _ _ (fun _ => hSall.out _ hb) ?_
                    clear hC C
                    try simp only [List.getElem_toArray, List.getElem_cons_zero, List.getElem_cons_succ, Act.put, List.setIfInBounds_toArray, List.set_cons_zero, List.set_cons_succ]
                    refine Ord.Till.take' 8 (some 56) (oi := _) (x := ?_) rfl rfl (by kernel_rfl) (by kernel_rfl) (by kernel_rfl) (by kernel_rfl) (fun _ _ _ h => h) (by kernel_rfl) ?_ (hSall.out _ hb) ?_
                    rotate_left 1
                    · intro v hv; obtain ⟨z0, z1⟩ := hv; go_simp; first | done | with_reducible rfl
                    try simp only [Act.put, List.setIfInBounds_toArray, List.set_cons_zero, List.set_cons_succ]
                    have k0 := cell_of_row _ _ 0 _ _ _ row
                    have k1 := cell_of_row _ _ 1 _ _ _ row
                    have kf := fun o => frozen_of_row _ _ o _ _ row
                    have row1 := heap_setCell_same _ _ 0 _ _ (.slice AS n cS) row
                    have hrz := put2_row row (.slice AS n cS) (.slice AB m cB)
                    have hbz := put2_below hb hR (.slice AS n cS) (.slice AB m cB)
                    have oSz := (o_S.setc row (by decide) 0 (.slice AS n cS)).setc row1 (by decide) 1 (.slice AB m cB)
                    have oBz := (o_B.oth (Sls.Oth.put row (fun j hj => Below.heap_setCell _ ⟨_, 0, none⟩ (.slice AS n cS) j hj)) (by decide)).oth (Sls.Oth.put row1 (fun j hj => Below.heap_setCell _ ⟨_, 1, none⟩ (.slice AB m cB) j hj)) (by decide)
                    unfold put2 at hrz hbz
                    refine Ord.Till.step 10 (by kernel_rfl) rfl (fun C hC => ?_)
                    go_simp
                    refine hC.out _ _ (fun _ => hSall.out _ hbz) ?_
                    clear hC C
                    try simp only [List.getElem_toArray, List.getElem_cons_zero, List.getElem_cons_succ, Act.put, List.setIfInBounds_toArray, List.set_cons_zero, List.set_cons_succ]
                    refine Ord.Till.done (by kernel_rfl) ?_ _
                    clear k0 k1 kf
                    go_wp2_with fail
                    go_meet
                    exact ⟨_, AS, cS, AB, cB, rfl, hrz, hR, oSz, oBz, hbz⟩
                · go_simp
                  have hb' := hb.alloc hb.size (.cells #[.slice none 0 0, .slice none 0 0] 25)
                  replace o_S := o_S.alloc (.cells #[.slice none 0 0, .slice none 0 0] 25)
                  have row := heap_alloc_new y2 (.cells #[.slice none 0 0, .slice none 0 0] 25)
                  have hR := hb.size
                  refine hC.out _ _ (fun _ => hSall.out _ hb') ?_
                  clear hC C
                  try simp only [List.getElem_toArray, List.getElem_cons_zero, List.getElem_cons_succ, Act.put, List.setIfInBounds_toArray, List.set_cons_zero, List.set_cons_succ]
                  clear hb
                  have hb := hb'
                  clear hb'
                  generalize y2.alloc (.cells #[.slice none 0 0, .slice none 0 0] 25) = y8 at *
                  generalize y2.heap.size = g8 at *
                  refine Ord.Till.step 4 (by kernel_rfl) rfl (fun C hC => ?_)
                  go_simp
                  have hb' := hb.alloc hb.size (.cells #[] 5)
                  replace o_S := o_S.alloc (.cells #[] 5)
                  replace row := (Below.heap_alloc y8 (.cells #[] 5) _ (Array.getElem?_eq_some_iff.1 row).1).trans row
                  have o_B := Byt.Own.lit0 y8 V.heap.size hb.size
                  refine hC.out _ _ (fun _ => hSall.out _ hb') ?_
                  clear hC C
                  try simp only [List.getElem_toArray, List.getElem_cons_zero, List.getElem_cons_succ, Act.put, List.setIfInBounds_toArray, List.set_cons_zero, List.set_cons_succ]
                  clear hb
                  have hb := hb'
                  clear hb'
                  generalize y8.alloc (.cells #[] 5) = y9 at *
                  generalize y8.heap.size = g9 at *
                  refine Ord.Till.step 7 (by kernel_rfl) rfl (fun C hC => ?_)
                  refine step_app2 y9 V.heap.size _ 0 [] o_B hb.size B m d w.heap.size body (hB.below (iV.on hb).b) (by omega) (by rfl) _ _ (by rfl) (by rfl) (by rfl) ?_
                  intro v10 y10 o_B' hb' ho'
                  rw [Nat.zero_add, List.nil_append] at o_B'
                  obtain ⟨AB, cB, rfl, _⟩ := o_B'.reads
                  clear o_B
                  have o_B := o_B'
                  replace o_S := o_S.oth ho' (by decide)
                  replace row := ho' _ _ row (fun _ _ e => by simp at e)
                  replace hb := hb.trans hb'
                  clear hb' ho' o_B'
                  refine hC.out _ _ (fun _ => hSall.out _ hb) ?_
                  clear hC C
                  try simp only [List.getElem_toArray, List.getElem_cons_zero, List.getElem_cons_succ, Act.put, List.setIfInBounds_toArray, List.set_cons_zero, List.set_cons_succ]
                  refine Ord.Till.take' 8 (some 56) (oi := _) (x := ?_) rfl rfl (by kernel_rfl) (by kernel_rfl) (by kernel_rfl) (by kernel_rfl) (fun _ _ _ h => h) (by kernel_rfl) ?_ (hSall.out _ hb) ?_
                  rotate_left 1
                  · intro v hv; obtain ⟨z0, z1⟩ := hv; go_simp; first | done | with_reducible rfl
                  try simp only [Act.put, List.setIfInBounds_toArray, List.set_cons_zero, List.set_cons_succ]
                  have k0 := cell_of_row _ _ 0 _ _ _ row
                  have k1 := cell_of_row _ _ 1 _ _ _ row
                  have kf := fun o => frozen_of_row _ _ o _ _ row
                  have row1 := heap_setCell_same _ _ 0 _ _ (.slice AS n cS) row
                  have hrz := put2_row row (.slice AS n cS) (.slice AB m cB)
                  have hbz := put2_below hb hR (.slice AS n cS) (.slice AB m cB)
                  have oSz := (o_S.setc row (by decide) 0 (.slice AS n cS)).setc row1 (by decide) 1 (.slice AB m cB)
                  have oBz := (o_B.oth (Sls.Oth.put row (fun j hj => Below.heap_setCell _ ⟨_, 0, none⟩ (.slice AS n cS) j hj)) (by decide)).oth (Sls.Oth.put row1 (fun j hj => Below.heap_setCell _ ⟨_, 1, none⟩ (.slice AB m cB) j hj)) (by decide)
                  unfold put2 at hrz hbz
                  refine Ord.Till.step 10 (by kernel_rfl) rfl (fun C hC => ?_)
                  go_simp
                  refine hC.out _ _ (fun _ => hSall.out _ hbz) ?_
                  clear hC C
                  try simp only [List.getElem_toArray, List.getElem_cons_zero, List.getElem_cons_succ, Act.put, List.setIfInBounds_toArray, List.set_cons_zero, List.set_cons_succ]
                  refine Ord.Till.done (by kernel_rfl) ?_ _
                  clear k0 k1 kf
                  go_wp2_with fail
                  go_meet
                  exact ⟨_, AS, cS, AB, cB, rfl, hrz, hR, oSz, oBz, hbz⟩
              · go_simp
                have hb' := hb.alloc hb.size (.cells #[] 5)
                replace o_S := o_S.alloc (.cells #[] 5)
                have o_B := Byt.Own.lit0 y1 V.heap.size hb.size
                refine hC.out _ _ (fun _ => hSall.out _ hb') ?_
                clear hC C
                try simp only [List.getElem_toArray, List.getElem_cons_zero, List.getElem_cons_succ, Act.put, List.setIfInBounds_toArray, List.set_cons_zero, List.set_cons_succ]
                clear hb
                have hb := hb'
                clear hb'
                generalize y1.alloc (.cells #[] 5) = y11 at *
                generalize y1.heap.size = g11 at *
                refine Ord.Till.two 3 9 (by kernel_rfl) rfl rfl (fun C hC => ?_) (fun C hC => ?_)
                · refine step_syms y11 V.heap.size _ 0 [] o_S hb.size A n c w.heap.size xs (h.below (iV.on hb).b) (by omega) (by rfl) _ _ (by rfl) (by rfl) (by rfl) ?_
                  intro v12 y12 o_S' hb' ho' hf'
                  rw [Nat.zero_add, List.nil_append] at o_S'
                  obtain ⟨AS, cS, rfl, _⟩ := o_S'.reads
                  clear o_S
                  have o_S := o_S'
                  replace o_B := o_B.oth ho' (by decide)
                  replace hb := hb.trans hb'
                  clear hb' ho' hf' o_S'
                  refine hC.out _ _ (fun _ => hSall.out _ hb) ?_
                  clear hC C
                  try simp only [List.getElem_toArray, List.getElem_cons_zero, List.getElem_cons_succ, Act.put, List.setIfInBounds_toArray, List.set_cons_zero, List.set_cons_succ]
                  refine Ord.Till.two 7 9 (by kernel_rfl) rfl rfl (fun C hC => ?_) (fun C hC => ?_)
                  · refine step_app2 y12 V.heap.size _ 0 [] o_B hb.size B m d w.heap.size body (hB.below (iV.on hb).b) (by omega) (by rfl) _ _ (by rfl) (by rfl) (by rfl) ?_
                    intro v13 y13 o_B' hb' ho'
                    rw [Nat.zero_add, List.nil_append] at o_B'
                    obtain ⟨AB, cB, rfl, _⟩ := o_B'.reads
                    clear o_B
                    have o_B := o_B'
                    replace o_S := o_S.oth ho' (by decide)
                    replace hb := hb.trans hb'
                    clear hb' ho' o_B'
                    refine hC.out _ _ (fun _ => hSall.out _ hb) ?_
                    clear hC C
                    try simp only [List.getElem_toArray, List.getElem_cons_zero, List.getElem_cons_succ, Act.put, List.setIfInBounds_toArray, List.set_cons_zero, List.set_cons_succ]
                    refine Ord.Till.take' 8 (some 56) (oi := _) (x := ?_) rfl rfl (by kernel_rfl) (by kernel_rfl) (by kernel_rfl) (by kernel_rfl) (fun _ _ _ h => h) (by kernel_rfl) ?_ (hSall.out _ hb) ?_
                    rotate_left 1
                    · intro v hv; obtain ⟨z0, z1⟩ := hv; go_simp; first | done | with_reducible rfl
                    try simp only [Act.put, List.setIfInBounds_toArray, List.set_cons_zero, List.set_cons_succ]
                    refine Ord.Till.step 9 (by kernel_rfl) rfl (fun C hC => ?_)
                    go_simp
                    have hb' := hb.alloc hb.size (.cells #[.slice none 0 0, .slice none 0 0] 25)
                    replace o_S := o_S.alloc (.cells #[.slice none 0 0, .slice none 0 0] 25)
                    replace o_B := o_B.alloc (.cells #[.slice none 0 0, .slice none 0 0] 25)
                    have row := heap_alloc_new y13 (.cells #[.slice none 0 0, .slice none 0 0] 25)
                    have hR := hb.size
                    refine hC.out _ _ (fun _ => hSall.out _ hb') ?_
                    clear hC C
                    try simp only [List.getElem_toArray, List.getElem_cons_zero, List.getElem_cons_succ, Act.put, List.setIfInBounds_toArray, List.set_cons_zero, List.set_cons_succ]
                    clear hb
                    have hb := hb'
                    clear hb'
                    generalize y13.alloc (.cells #[.slice none 0 0, .slice none 0 0] 25) = y14 at *
                    generalize y13.heap.size = g14 at *
                    have k0 := cell_of_row _ _ 0 _ _ _ row
                    have k1 := cell_of_row _ _ 1 _ _ _ row
                    have kf := fun o => frozen_of_row _ _ o _ _ row
                    have row1 := heap_setCell_same _ _ 0 _ _ (.slice AS n cS) row
                    have hrz := put2_row row (.slice AS n cS) (.slice AB m cB)
                    have hbz := put2_below hb hR (.slice AS n cS) (.slice AB m cB)
                    have oSz := (o_S.setc row (by decide) 0 (.slice AS n cS)).setc row1 (by decide) 1 (.slice AB m cB)
                    have oBz := (o_B.oth (Sls.Oth.put row (fun j hj => Below.heap_setCell _ ⟨_, 0, none⟩ (.slice AS n cS) j hj)) (by decide)).oth (Sls.Oth.put row1 (fun j hj => Below.heap_setCell _ ⟨_, 1, none⟩ (.slice AB m cB) j hj)) (by decide)
                    unfold put2 at hrz hbz
                    refine Ord.Till.step 10 (by kernel_rfl) rfl (fun C hC => ?_)
                    go_simp
                    refine hC.out _ _ (fun _ => hSall.out _ hbz) ?_
                    clear hC C
                    try simp only [List.getElem_toArray, List.getElem_cons_zero, List.getElem_cons_succ, Act.put, List.setIfInBounds_toArray, List.set_cons_zero, List.set_cons_succ]
                    refine Ord.Till.done (by kernel_rfl) ?_ _
                    clear k0 k1 kf
                    go_wp2_with fail
                    go_meet
                    exact ⟨_, AS, cS, AB, cB, rfl, hrz, hR, oSz, oBz, hbz⟩
                  · go_simp
                    have hb' := hb.alloc hb.size (.cells #[.slice none 0 0, .slice none 0 0] 25)
                    replace o_S := o_S.alloc (.cells #[.slice none 0 0, .slice none 0 0] 25)
                    replace o_B := o_B.alloc (.cells #[.slice none 0 0, .slice none 0 0] 25)
                    have row := heap_alloc_new y12 (.cells #[.slice none 0 0, .slice none 0 0] 25)
                    have hR := hb.size
                    refine hC.out _ _ (fun _ => hSall.out _ hb') ?_
                    clear hC C
                    try simp only [List.getElem_toArray, List.getElem_cons_zero, List.getElem_cons_succ, Act.put, List.setIfInBounds_toArray, List.set_cons_zero, List.set_cons_succ]
                    clear hb
                    have hb := hb'
                    clear hb'
                    generalize y12.alloc (.cells #[.slice none 0 0, .slice none 0 0] 25) = y15 at *
                    generalize y12.heap.size = g15 at *
                    refine Ord.Till.step 7 (by kernel_rfl) rfl (fun C hC => ?_)
                    refine step_app2 y15 V.heap.size _ 0 [] o_B hb.size B m d w.heap.size body (hB.below (iV.on hb).b) (by omega) (by rfl) _ _ (by rfl) (by rfl) (by rfl) ?_
                    intro v16 y16 o_B' hb' ho'
                    rw [Nat.zero_add, List.nil_append] at o_B'
                    obtain ⟨AB, cB, rfl, _⟩ := o_B'.reads
                    clear o_B
                    have o_B := o_B'
                    replace o_S := o_S.oth ho' (by decide)
                    replace row := ho' _ _ row (fun _ _ e => by simp at e)
                    replace hb := hb.trans hb'
                    clear hb' ho' o_B'
                    refine hC.out _ _ (fun _ => hSall.out _ hb) ?_
                    clear hC C
                    try simp only [List.getElem_toArray, List.getElem_cons_zero, List.getElem_cons_succ, Act.put, List.setIfInBounds_toArray, List.set_cons_zero, List.set_cons_succ]
                    refine Ord.Till.take' 8 (some 56) (oi := _) (x := ?_) rfl rfl (by kernel_rfl) (by kernel_rfl) (by kernel_rfl) (by kernel_rfl) (fun _ _ _ h => h) (by kernel_rfl) ?_ (hSall.out _ hb) ?_
                    rotate_left 1
                    · intro v hv; obtain ⟨z0, z1⟩ := hv; go_simp; first | done | with_reducible rfl
                    try simp only [Act.put, List.setIfInBounds_toArray, List.set_cons_zero, List.set_cons_succ]
                    have k0 := cell_of_row _ _ 0 _ _ _ row
                    have k1 := cell_of_row _ _ 1 _ _ _ row
                    have kf := fun o => frozen_of_row _ _ o _ _ row
                    have row1 := heap_setCell_same _ _ 0 _ _ (.slice AS n cS) row
                    have hrz := put2_row row (.slice AS n cS) (.slice AB m cB)
                    have hbz := put2_below hb hR (.slice AS n cS) (.slice AB m cB)
                    have oSz := (o_S.setc row (by decide) 0 (.slice AS n cS)).setc row1 (by decide) 1 (.slice AB m cB)
                    have oBz := (o_B.oth (Sls.Oth.put row (fun j hj => Below.heap_setCell _ ⟨_, 0, none⟩ (.slice AS n cS) j hj)) (by decide)).oth (Sls.Oth.put row1 (fun j hj => Below.heap_setCell _ ⟨_, 1, none⟩ (.slice AB m cB) j hj)) (by decide)
                    unfold put2 at hrz hbz
                    refine Ord.Till.step 10 (by kernel_rfl) rfl (fun C hC => ?_)
                    go_simp
                    refine hC.out _ _ (fun _ => hSall.out _ hbz) ?_
                    clear hC C
                    try simp only [List.getElem_toArray, List.getElem_cons_zero, List.getElem_cons_succ, Act.put, List.setIfInBounds_toArray, List.set_cons_zero, List.set_cons_succ]
                    refine Ord.Till.done (by kernel_rfl) ?_ _
                    clear k0 k1 kf
                    go_wp2_with fail
                    go_meet
                    exact ⟨_, AS, cS, AB, cB, rfl, hrz, hR, oSz, oBz, hbz⟩
                · go_simp
                  have hb' := hb.alloc hb.size (.cells #[.slice none 0 0, .slice none 0 0] 25)
                  replace o_S := o_S.alloc (.cells #[.slice none 0 0, .slice none 0 0] 25)
                  replace o_B := o_B.alloc (.cells #[.slice none 0 0, .slice none 0 0] 25)
                  have row := heap_alloc_new y11 (.cells #[.slice none 0 0, .slice none 0 0] 25)
                  have hR := hb.size
                  refine hC.out _ _ (fun _ => hSall.out _ hb') ?_
                  clear hC C
                  try simp only [List.getElem_toArray, List.getElem_cons_zero, List.getElem_cons_succ, Act.put, List.setIfInBounds_toArray, List.set_cons_zero, List.set_cons_succ]
                  clear hb
                  have hb := hb'
                  clear hb'
                  generalize y11.alloc (.cells #[.slice none 0 0, .slice none 0 0] 25) = y17 at *
                  generalize y11.heap.size = g17 at *
                  refine Ord.Till.step 3 (by kernel_rfl) rfl (fun C hC => ?_)
                  refine step_syms y17 V.heap.size _ 0 [] o_S hb.size A n c w.heap.size xs (h.below (iV.on hb).b) (by omega) (by rfl) _ _ (by rfl) (by rfl) (by rfl) ?_
                  intro v18 y18 o_S' hb' ho' hf'
                  rw [Nat.zero_add, List.nil_append] at o_S'
                  obtain ⟨AS, cS, rfl, _⟩ := o_S'.reads
                  clear o_S
                  have o_S := o_S'
                  replace o_B := o_B.oth ho' (by decide)
                  replace row := ho' _ _ row (fun _ _ e => by simp at e)
                  replace hb := hb.trans hb'
                  clear hb' ho' hf' o_S'
                  refine hC.out _ _ (fun _ => hSall.out _ hb) ?_
                  clear hC C
                  try simp only [List.getElem_toArray, List.getElem_cons_zero, List.getElem_cons_succ, Act.put, List.setIfInBounds_toArray, List.set_cons_zero, List.set_cons_succ]
                  refine Ord.Till.step 7 (by kernel_rfl) rfl (fun C hC => ?_)
                  refine step_app2 y18 V.heap.size _ 0 [] o_B hb.size B m d w.heap.size body (hB.below (iV.on hb).b) (by omega) (by rfl) _ _ (by rfl) (by rfl) (by rfl) ?_
                  intro v19 y19 o_B' hb' ho'
                  rw [Nat.zero_add, List.nil_append] at o_B'
                  obtain ⟨AB, cB, rfl, _⟩ := o_B'.reads
                  clear o_B
                  have o_B := o_B'
                  replace o_S := o_S.oth ho' (by decide)
                  replace row := ho' _ _ row (fun _ _ e => by simp at e)
                  replace hb := hb.trans hb'
                  clear hb' ho' o_B'
                  refine hC.out _ _ (fun _ => hSall.out _ hb) ?_
                  clear hC C
                  try simp only [List.getElem_toArray, List.getElem_cons_zero, List.getElem_cons_succ, Act.put, List.setIfInBounds_toArray, List.set_cons_zero, List.set_cons_succ]
                  refine Ord.Till.take' 8 (some 56) (oi := _) (x := ?_) rfl rfl (by kernel_rfl) (by kernel_rfl) (by kernel_rfl) (by kernel_rfl) (fun _ _ _ h => h) (by kernel_rfl) ?_ (hSall.out _ hb) ?_
                  rotate_left 1
                  · intro v hv; obtain ⟨z0, z1⟩ := hv; go_simp; first | done | with_reducible rfl
                  try simp only [Act.put, List.setIfInBounds_toArray, List.set_cons_zero, List.set_cons_succ]
                  have k0 := cell_of_row _ _ 0 _ _ _ row
                  have k1 := cell_of_row _ _ 1 _ _ _ row
                  have kf := fun o => frozen_of_row _ _ o _ _ row
                  have row1 := heap_setCell_same _ _ 0 _ _ (.slice AS n cS) row
                  have hrz := put2_row row (.slice AS n cS) (.slice AB m cB)
                  have hbz := put2_below hb hR (.slice AS n cS) (.slice AB m cB)
                  have oSz := (o_S.setc row (by decide) 0 (.slice AS n cS)).setc row1 (by decide) 1 (.slice AB m cB)
                  have oBz := (o_B.oth (Sls.Oth.put row (fun j hj => Below.heap_setCell _ ⟨_, 0, none⟩ (.slice AS n cS) j hj)) (by decide)).oth (Sls.Oth.put row1 (fun j hj => Below.heap_setCell _ ⟨_, 1, none⟩ (.slice AB m cB) j hj)) (by decide)
                  unfold put2 at hrz hbz
                  refine Ord.Till.step 10 (by kernel_rfl) rfl (fun C hC => ?_)
                  go_simp
                  refine hC.out _ _ (fun _ => hSall.out _ hbz) ?_
                  clear hC C
                  try simp only [List.getElem_toArray, List.getElem_cons_zero, List.getElem_cons_succ, Act.put, List.setIfInBounds_toArray, List.set_cons_zero, List.set_cons_succ]
                  refine Ord.Till.done (by kernel_rfl) ?_ _
                  clear k0 k1 kf
                  go_wp2_with fail
                  go_meet
                  exact ⟨_, AS, cS, AB, cB, rfl, hrz, hR, oSz, oBz, hbz⟩
              · go_simp
                have hb' := hb.alloc hb.size (.cells #[.slice none 0 0, .slice none 0 0] 25)
                replace o_S := o_S.alloc (.cells #[.slice none 0 0, .slice none 0 0] 25)
                have row := heap_alloc_new y1 (.cells #[.slice none 0 0, .slice none 0 0] 25)
                have hR := hb.size
                refine hC.out _ _ (fun _ => hSall.out _ hb') ?_
                clear hC C
                try simp only [List.getElem_toArray, List.getElem_cons_zero, List.getElem_cons_succ, Act.put, List.setIfInBounds_toArray, List.set_cons_zero, List.set_cons_succ]
                clear hb
                have hb := hb'
                clear hb'
                generalize y1.alloc (.cells #[.slice none 0 0, .slice none 0 0] 25) = y20 at *
                generalize y1.heap.size = g20 at *
                refine Ord.Till.two 3 4 (by kernel_rfl) rfl rfl (fun C hC => ?_) (fun C hC => ?_)
                · refine step_syms y20 V.heap.size _ 0 [] o_S hb.size A n c w.heap.size xs (h.below (iV.on hb).b) (by omega) (by rfl) _ _ (by rfl) (by rfl) (by rfl) ?_
                  intro v21 y21 o_S' hb' ho' hf'
                  rw [Nat.zero_add, List.nil_append] at o_S'
                  obtain ⟨AS, cS, rfl, _⟩ := o_S'.reads
                  clear o_S
                  have o_S := o_S'
                  replace row := ho' _ _ row (fun _ _ e => by simp at e)
                  replace hb := hb.trans hb'
                  clear hb' ho' hf' o_S'
                  refine hC.out _ _ (fun _ => hSall.out _ hb) ?_
                  clear hC C
                  try simp only [List.getElem_toArray, List.getElem_cons_zero, List.getElem_cons_succ, Act.put, List.setIfInBounds_toArray, List.set_cons_zero, List.set_cons_succ]
                  refine Ord.Till.step 4 (by kernel_rfl) rfl (fun C hC => ?_)
                  go_simp
                  have hb' := hb.alloc hb.size (.cells #[] 5)
                  replace o_S := o_S.alloc (.cells #[] 5)
                  replace row := (Below.heap_alloc y21 (.cells #[] 5) _ (Array.getElem?_eq_some_iff.1 row).1).trans row
                  have o_B := Byt.Own.lit0 y21 V.heap.size hb.size
                  refine hC.out _ _ (fun _ => hSall.out _ hb') ?_
                  clear hC C
                  try simp only [List.getElem_toArray, List.getElem_cons_zero, List.getElem_cons_succ, Act.put, List.setIfInBounds_toArray, List.set_cons_zero, List.set_cons_succ]
                  clear hb
                  have hb := hb'
                  clear hb'
                  generalize y21.alloc (.cells #[] 5) = y22 at *
                  generalize y21.heap.size = g22 at *
                  refine Ord.Till.step 7 (by kernel_rfl) rfl (fun C hC => ?_)
                  refine step_app2 y22 V.heap.size _ 0 [] o_B hb.size B m d w.heap.size body (hB.below (iV.on hb).b) (by omega) (by rfl) _ _ (by rfl) (by rfl) (by rfl) ?_
                  intro v23 y23 o_B' hb' ho'
                  rw [Nat.zero_add, List.nil_append] at o_B'
                  obtain ⟨AB, cB, rfl, _⟩ := o_B'.reads
                  clear o_B
                  have o_B := o_B'
                  replace o_S := o_S.oth ho' (by decide)
                  replace row := ho' _ _ row (fun _ _ e => by simp at e)
                  replace hb := hb.trans hb'
                  clear hb' ho' o_B'
                  refine hC.out _ _ (fun _ => hSall.out _ hb) ?_
                  clear hC C
                  try simp only [List.getElem_toArray, List.getElem_cons_zero, List.getElem_cons_succ, Act.put, List.setIfInBounds_toArray, List.set_cons_zero, List.set_cons_succ]
                  refine Ord.Till.take' 8 (some 56) (oi := _) (x := ?_) rfl rfl (by kernel_rfl) (by kernel_rfl) (by kernel_rfl) (by kernel_rfl) (fun _ _ _ h => h) (by kernel_rfl) ?_ (hSall.out _ hb) ?_
                  rotate_left 1
                  · intro v hv; obtain ⟨z0, z1⟩ := hv; go_simp; first | done | with_reducible rfl
                  try simp only [Act.put, List.setIfInBounds_toArray, List.set_cons_zero, List.set_cons_succ]
                  have k0 := cell_of_row _ _ 0 _ _ _ row
                  have k1 := cell_of_row _ _ 1 _ _ _ row
                  have kf := fun o => frozen_of_row _ _ o _ _ row
                  have row1 := heap_setCell_same _ _ 0 _ _ (.slice AS n cS) row
                  have hrz := put2_row row (.slice AS n cS) (.slice AB m cB)
                  have hbz := put2_below hb hR (.slice AS n cS) (.slice AB m cB)
                  have oSz := (o_S.setc row (by decide) 0 (.slice AS n cS)).setc row1 (by decide) 1 (.slice AB m cB)
                  have oBz := (o_B.oth (Sls.Oth.put row (fun j hj => Below.heap_setCell _ ⟨_, 0, none⟩ (.slice AS n cS) j hj)) (by decide)).oth (Sls.Oth.put row1 (fun j hj => Below.heap_setCell _ ⟨_, 1, none⟩ (.slice AB m cB) j hj)) (by decide)
                  unfold put2 at hrz hbz
                  refine Ord.Till.step 10 (by kernel_rfl) rfl (fun C hC => ?_)
                  go_simp
                  refine hC.out _ _ (fun _ => hSall.out _ hbz) ?_
                  clear hC C
                  try simp only [List.getElem_toArray, List.getElem_cons_zero, List.getElem_cons_succ, Act.put, List.setIfInBounds_toArray, List.set_cons_zero, List.set_cons_succ]
                  refine Ord.Till.done (by kernel_rfl) ?_ _
                  clear k0 k1 kf
                  go_wp2_with fail
                  go_meet
                  exact ⟨_, AS, cS, AB, cB, rfl, hrz, hR, oSz, oBz, hbz⟩
                · go_simp
                  have hb' := hb.alloc hb.size (.cells #[] 5)
                  replace o_S := o_S.alloc (.cells #[] 5)
                  replace row := (Below.heap_alloc y20 (.cells #[] 5) _ (Array.getElem?_eq_some_iff.1 row).1).trans row
                  have o_B := Byt.Own.lit0 y20 V.heap.size hb.size
                  refine hC.out _ _ (fun _ => hSall.out _ hb') ?_
                  clear hC C
                  try simp only [List.getElem_toArray, List.getElem_cons_zero, List.getElem_cons_succ, Act.put, List.setIfInBounds_toArray, List.set_cons_zero, List.set_cons_succ]
                  clear hb
                  have hb := hb'
                  clear hb'
                  generalize y20.alloc (.cells #[] 5) = y24 at *
                  generalize y20.heap.size = g24 at *
                  refine Ord.Till.step 3 (by kernel_rfl) rfl (fun C hC => ?_)
                  refine step_syms y24 V.heap.size _ 0 [] o_S hb.size A n c w.heap.size xs (h.below (iV.on hb).b) (by omega) (by rfl) _ _ (by rfl) (by rfl) (by rfl) ?_
                  intro v25 y25 o_S' hb' ho' hf'
                  rw [Nat.zero_add, List.nil_append] at o_S'
                  obtain ⟨AS, cS, rfl, _⟩ := o_S'.reads
                  clear o_S
                  have o_S := o_S'
                  replace o_B := o_B.oth ho' (by decide)
                  replace row := ho' _ _ row (fun _ _ e => by simp at e)
                  replace hb := hb.trans hb'
                  clear hb' ho' hf' o_S'
                  refine hC.out _ _ (fun _ => hSall.out _ hb) ?_
                  clear hC C
                  try simp only [List.getElem_toArray, List.getElem_cons_zero, List.getElem_cons_succ, Act.put, List.setIfInBounds_toArray, List.set_cons_zero, List.set_cons_succ]
                  refine Ord.Till.step 7 (by kernel_rfl) rfl (fun C hC => ?_)
                  refine step_app2 y25 V.heap.size _ 0 [] o_B hb.size B m d w.heap.size body (hB.below (iV.on hb).b) (by omega) (by rfl) _ _ (by rfl) (by rfl) (by rfl) ?_
                  intro v26 y26 o_B' hb' ho'
                  rw [Nat.zero_add, List.nil_append] at o_B'
                  obtain ⟨AB, cB, rfl, _⟩ := o_B'.reads
                  clear o_B
                  have o_B := o_B'
                  replace o_S := o_S.oth ho' (by decide)
                  replace row := ho' _ _ row (fun _ _ e => by simp at e)
                  replace hb := hb.trans hb'
                  clear hb' ho' o_B'
                  refine hC.out _ _ (fun _ => hSall.out _ hb) ?_
                  clear hC C
                  try simp only [List.getElem_toArray, List.getElem_cons_zero, List.getElem_cons_succ, Act.put, List.setIfInBounds_toArray, List.set_cons_zero, List.set_cons_succ]
                  refine Ord.Till.take' 8 (some 56) (oi := _) (x := ?_) rfl rfl (by kernel_rfl) (by kernel_rfl) (by kernel_rfl) (by kernel_rfl) (fun _ _ _ h => h) (by kernel_rfl) ?_ (hSall.out _ hb) ?_
                  rotate_left 1
                  · intro v hv; obtain ⟨z0, z1⟩ := hv; go_simp; first | done | with_reducible rfl
                  try simp only [Act.put, List.setIfInBounds_toArray, List.set_cons_zero, List.set_cons_succ]
                  have k0 := cell_of_row _ _ 0 _ _ _ row
                  have k1 := cell_of_row _ _ 1 _ _ _ row
                  have kf := fun o => frozen_of_row _ _ o _ _ row
                  have row1 := heap_setCell_same _ _ 0 _ _ (.slice AS n cS) row
                  have hrz := put2_row row (.slice AS n cS) (.slice AB m cB)
                  have hbz := put2_below hb hR (.slice AS n cS) (.slice AB m cB)
                  have oSz := (o_S.setc row (by decide) 0 (.slice AS n cS)).setc row1 (by decide) 1 (.slice AB m cB)
                  have oBz := (o_B.oth (Sls.Oth.put row (fun j hj => Below.heap_setCell _ ⟨_, 0, none⟩ (.slice AS n cS) j hj)) (by decide)).oth (Sls.Oth.put row1 (fun j hj => Below.heap_setCell _ ⟨_, 1, none⟩ (.slice AB m cB) j hj)) (by decide)
                  unfold put2 at hrz hbz
                  refine Ord.Till.step 10 (by kernel_rfl) rfl (fun C hC => ?_)
                  go_simp
                  refine hC.out _ _ (fun _ => hSall.out _ hbz) ?_
                  clear hC C
                  try simp only [List.getElem_toArray, List.getElem_cons_zero, List.getElem_cons_succ, Act.put, List.setIfInBounds_toArray, List.set_cons_zero, List.set_cons_succ]
                  refine Ord.Till.done (by kernel_rfl) ?_ _
                  clear k0 k1 kf
                  go_wp2_with fail
                  go_meet
                  exact ⟨_, AS, cS, AB, cB, rfl, hrz, hR, oSz, oBz, hbz⟩
            · go_simp
              have hb' := hb.alloc hb.size (.cells #[] 5)
              have o_B := Byt.Own.lit0 y0 V.heap.size hb.size
              refine hC.out _ _ (fun _ => hSall.out _ hb') ?_
              clear hC C
              try simp only [List.getElem_toArray, List.getElem_cons_zero, List.getElem_cons_succ, Act.put, List.setIfInBounds_toArray, List.set_cons_zero, List.set_cons_succ]
              clear hb
              have hb := hb'
              clear hb'
              generalize y0.alloc (.cells #[] 5) = y27 at *
              generalize y0.heap.size = g27 at *
              refine Ord.Till.two 0 9 (by kernel_rfl) rfl rfl (fun C hC => ?_) (fun C hC => ?_)
              · go_simp
                have hb' := hb.alloc hb.size (.cells #[] 38)
                replace o_B := o_B.alloc (.cells #[] 38)
                have o_S := syms_lit0 y27 V.heap.size hb.size
                refine hC.out _ _ (fun _ => hSall.out _ hb') ?_
                clear hC C
                try simp only [List.getElem_toArray, List.getElem_cons_zero, List.getElem_cons_succ, Act.put, List.setIfInBounds_toArray, List.set_cons_zero, List.set_cons_succ]
                clear hb
                have hb := hb'
                clear hb'
                generalize y27.alloc (.cells #[] 38) = y28 at *
                generalize y27.heap.size = g28 at *
                refine Ord.Till.two 3 9 (by kernel_rfl) rfl rfl (fun C hC => ?_) (fun C hC => ?_)
                · refine step_syms y28 V.heap.size _ 0 [] o_S hb.size A n c w.heap.size xs (h.below (iV.on hb).b) (by omega) (by rfl) _ _ (by rfl) (by rfl) (by rfl) ?_
                  intro v29 y29 o_S' hb' ho' hf'
                  rw [Nat.zero_add, List.nil_append] at o_S'
                  obtain ⟨AS, cS, rfl, _⟩ := o_S'.reads
                  clear o_S
                  have o_S := o_S'
                  replace o_B := o_B.oth ho' (by decide)
                  replace hb := hb.trans hb'
                  clear hb' ho' hf' o_S'
                  refine hC.out _ _ (fun _ => hSall.out _ hb) ?_
                  clear hC C
                  try simp only [List.getElem_toArray, List.getElem_cons_zero, List.getElem_cons_succ, Act.put, List.setIfInBounds_toArray, List.set_cons_zero, List.set_cons_succ]
                  refine Ord.Till.two 7 9 (by kernel_rfl) rfl rfl (fun C hC => ?_) (fun C hC => ?_)
                  · refine step_app2 y29 V.heap.size _ 0 [] o_B hb.size B m d w.heap.size body (hB.below (iV.on hb).b) (by omega) (by rfl) _ _ (by rfl) (by rfl) (by rfl) ?_
                    intro v30 y30 o_B' hb' ho'
                    rw [Nat.zero_add, List.nil_append] at o_B'
                    obtain ⟨AB, cB, rfl, _⟩ := o_B'.reads
                    clear o_B
                    have o_B := o_B'
                    replace o_S := o_S.oth ho' (by decide)
                    replace hb := hb.trans hb'
                    clear hb' ho' o_B'
                    refine hC.out _ _ (fun _ => hSall.out _ hb) ?_
                    clear hC C
                    try simp only [List.getElem_toArray, List.getElem_cons_zero, List.getElem_cons_succ, Act.put, List.setIfInBounds_toArray, List.set_cons_zero, List.set_cons_succ]
                    refine Ord.Till.take' 8 (some 56) (oi := _) (x := ?_) rfl rfl (by kernel_rfl) (by kernel_rfl) (by kernel_rfl) (by kernel_rfl) (fun _ _ _ h => h) (by kernel_rfl) ?_ (hSall.out _ hb) ?_
                    rotate_left 1
                    · intro v hv; obtain ⟨z0, z1⟩ := hv; go_simp; first | done | with_reducible rfl
                    try simp only [Act.put, List.setIfInBounds_toArray, List.set_cons_zero, List.set_cons_succ]
                    refine Ord.Till.step 9 (by kernel_rfl) rfl (fun C hC => ?_)
                    go_simp
                    have hb' := hb.alloc hb.size (.cells #[.slice none 0 0, .slice none 0 0] 25)
                    replace o_S := o_S.alloc (.cells #[.slice none 0 0, .slice none 0 0] 25)
                    replace o_B := o_B.alloc (.cells #[.slice none 0 0, .slice none 0 0] 25)
                    have row := heap_alloc_new y30 (.cells #[.slice none 0 0, .slice none 0 0] 25)
                    have hR := hb.size
                    refine hC.out _ _ (fun _ => hSall.out _ hb') ?_
                    clear hC C
                    try simp only [List.getElem_toArray, List.getElem_cons_zero, List.getElem_cons_succ, Act.put, List.setIfInBounds_toArray, List.set_cons_zero, List.set_cons_succ]
                    clear hb
                    have hb := hb'
                    clear hb'
                    generalize y30.alloc (.cells #[.slice none 0 0, .slice none 0 0] 25) = y31 at *
                    generalize y30.heap.size = g31 at *
                    have k0 := cell_of_row _ _ 0 _ _ _ row
                    have k1 := cell_of_row _ _ 1 _ _ _ row
                    have kf := fun o => frozen_of_row _ _ o _ _ row
                    have row1 := heap_setCell_same _ _ 0 _ _ (.slice AS n cS) row
                    have hrz := put2_row row (.slice AS n cS) (.slice AB m cB)
                    have hbz := put2_below hb hR (.slice AS n cS) (.slice AB m cB)
                    have oSz := (o_S.setc row (by decide) 0 (.slice AS n cS)).setc row1 (by decide) 1 (.slice AB m cB)
                    have oBz := (o_B.oth (Sls.Oth.put row (fun j hj => Below.heap_setCell _ ⟨_, 0, none⟩ (.slice AS n cS) j hj)) (by decide)).oth (Sls.Oth.put row1 (fun j hj => Below.heap_setCell _ ⟨_, 1, none⟩ (.slice AB m cB) j hj)) (by decide)
                    unfold put2 at hrz hbz
                    refine Ord.Till.step 10 (by kernel_rfl) rfl (fun C hC => ?_)
                    go_simp
                    refine hC.out _ _ (fun _ => hSall.out _ hbz) ?_
                    clear hC C
                    try simp only [List.getElem_toArray, List.getElem_cons_zero, List.getElem_cons_succ, Act.put, List.setIfInBounds_toArray, List.set_cons_zero, List.set_cons_succ]
                    refine Ord.Till.done (by kernel_rfl) ?_ _
                    clear k0 k1 kf
                    go_wp2_with fail
                    go_meet
                    exact ⟨_, AS, cS, AB, cB, rfl, hrz, hR, oSz, oBz, hbz⟩
                  · go_simp
                    have hb' := hb.alloc hb.size (.cells #[.slice none 0 0, .slice none 0 0] 25)
                    replace o_S := o_S.alloc (.cells #[.slice none 0 0, .slice none 0 0] 25)
                    replace o_B := o_B.alloc (.cells #[.slice none 0 0, .slice none 0 0] 25)
                    have row := heap_alloc_new y29 (.cells #[.slice none 0 0, .slice none 0 0] 25)
                    have hR := hb.size
                    refine hC.out _ _ (fun _ => hSall.out _ hb') ?_
                    clear hC C
                    try simp only [List.getElem_toArray, List.getElem_cons_zero, List.getElem_cons_succ, Act.put, List.setIfInBounds_toArray, List.set_cons_zero, List.set_cons_succ]
                    clear hb
                    have hb := hb'
                    clear hb'
                    generalize y29.alloc (.cells #[.slice none 0 0, .slice none 0 0] 25) = y32 at *
                    generalize y29.heap.size = g32 at *
                    refine Ord.Till.step 7 (by kernel_rfl) rfl (fun C hC => ?_)
                    refine step_app2 y32 V.heap.size _ 0 [] o_B hb.size B m d w.heap.size body (hB.below (iV.on hb).b) (by omega) (by rfl) _ _ (by rfl) (by rfl) (by rfl) ?_
                    intro v33 y33 o_B' hb' ho'
                    rw [Nat.zero_add, List.nil_append] at o_B'
                    obtain ⟨AB, cB, rfl, _⟩ := o_B'.reads
                    clear o_B
                    have o_B := o_B'
                    replace o_S := o_S.oth ho' (by decide)
                    replace row := ho' _ _ row (fun _ _ e => by simp at e)
                    replace hb := hb.trans hb'
                    clear hb' ho' o_B'
                    refine hC.out _ _ (fun _ => hSall.out _ hb) ?_
                    clear hC C
                    try simp only [List.getElem_toArray, List.getElem_cons_zero, List.getElem_cons_succ, Act.put, List.setIfInBounds_toArray, List.set_cons_zero, List.set_cons_succ]
                    refine Ord.Till.take' 8 (some 56) (oi := _) (x := ?_) rfl rfl (by kernel_rfl) (by kernel_rfl) (by kernel_rfl) (by kernel_rfl) (fun _ _ _ h => h) (by kernel_rfl) ?_ (hSall.out _ hb) ?_
                    rotate_left 1
                    · intro v hv; obtain ⟨z0, z1⟩ := hv; go_simp; first | done | with_reducible rfl
                    try simp only [Act.put, List.setIfInBounds_toArray, List.set_cons_zero, List.set_cons_succ]
                    have k0 := cell_of_row _ _ 0 _ _ _ row
                    have k1 := cell_of_row _ _ 1 _ _ _ row
                    have kf := fun o => frozen_of_row _ _ o _ _ row
                    have row1 := heap_setCell_same _ _ 0 _ _ (.slice AS n cS) row
                    have hrz := put2_row row (.slice AS n cS) (.slice AB m cB)
                    have hbz := put2_below hb hR (.slice AS n cS) (.slice AB m cB)
                    have oSz := (o_S.setc row (by decide) 0 (.slice AS n cS)).setc row1 (by decide) 1 (.slice AB m cB)
                    have oBz := (o_B.oth (Sls.Oth.put row (fun j hj => Below.heap_setCell _ ⟨_, 0, none⟩ (.slice AS n cS) j hj)) (by decide)).oth (Sls.Oth.put row1 (fun j hj => Below.heap_setCell _ ⟨_, 1, none⟩ (.slice AB m cB) j hj)) (by decide)
                    unfold put2 at hrz hbz
                    refine Ord.Till.step 10 (by kernel_rfl) rfl (fun C hC => ?_)
                    go_simp
                    refine hC.out _ _ (fun _ => hSall.out _ hbz) ?_
                    clear hC C
                    try simp only [List.getElem_toArray, List.getElem_cons_zero, List.getElem_cons_succ, Act.put, List.setIfInBounds_toArray, List.set_cons_zero, List.set_cons_succ]
                    refine Ord.Till.done (by kernel_rfl) ?_ _
                    clear k0 k1 kf
                    go_wp2_with fail
                    go_meet
                    exact ⟨_, AS, cS, AB, cB, rfl, hrz, hR, oSz, oBz, hbz⟩
                · go_simp
                  have hb' := hb.alloc hb.size (.cells #[.slice none 0 0, .slice none 0 0] 25)
                  replace o_S := o_S.alloc (.cells #[.slice none 0 0, .slice none 0 0] 25)
                  replace o_B := o_B.alloc (.cells #[.slice none 0 0, .slice none 0 0] 25)
                  have row := heap_alloc_new y28 (.cells #[.slice none 0 0, .slice none 0 0] 25)
                  have hR := hb.size
                  refine hC.out _ _ (fun _ => hSall.out _ hb') ?_
                  clear hC C
                  try simp only [List.getElem_toArray, List.getElem_cons_zero, List.getElem_cons_succ, Act.put, List.setIfInBounds_toArray, List.set_cons_zero, List.set_cons_succ]
                  clear hb
                  have hb := hb'
                  clear hb'
                  generalize y28.alloc (.cells #[.slice none 0 0, .slice none 0 0] 25) = y34 at *
                  generalize y28.heap.size = g34 at *
                  refine Ord.Till.step 3 (by kernel_rfl) rfl (fun C hC => ?_)
                  refine step_syms y34 V.heap.size _ 0 [] o_S hb.size A n c w.heap.size xs (h.below (iV.on hb).b) (by omega) (by rfl) _ _ (by rfl) (by rfl) (by rfl) ?_
                  intro v35 y35 o_S' hb' ho' hf'
                  rw [Nat.zero_add, List.nil_append] at o_S'
                  obtain ⟨AS, cS, rfl, _⟩ := o_S'.reads
                  clear o_S
                  have o_S := o_S'
                  replace o_B := o_B.oth ho' (by decide)
                  replace row := ho' _ _ row (fun _ _ e => by simp at e)
                  replace hb := hb.trans hb'
                  clear hb' ho' hf' o_S'
                  refine hC.out _ _ (fun _ => hSall.out _ hb) ?_
                  clear hC C
                  try simp only [List.getElem_toArray, List.getElem_cons_zero, List.getElem_cons_succ, Act.put, List.setIfInBounds_toArray, List.set_cons_zero, List.set_cons_succ]
                  refine Ord.Till.step 7 (by kernel_rfl) rfl (fun C hC => ?_)
                  refine step_app2 y35 V.heap.size _ 0 [] o_B hb.size B m d w.heap.size body (hB.below (iV.on hb).b) (by omega) (by rfl) _ _ (by rfl) (by rfl) (by rfl) ?_
                  intro v36 y36 o_B' hb' ho'
                  rw [Nat.zero_add, List.nil_append] at o_B'
                  obtain ⟨AB, cB, rfl, _⟩ := o_B'.reads
                  clear o_B
                  have o_B := o_B'
                  replace o_S := o_S.oth ho' (by decide)
                  replace row := ho' _ _ row (fun _ _ e => by simp at e)
                  replace hb := hb.trans hb'
                  clear hb' ho' o_B'
                  refine hC.out _ _ (fun _ => hSall.out _ hb) ?_
                  clear hC C
                  try simp only [List.getElem_toArray, List.getElem_cons_zero, List.getElem_cons_succ, Act.put, List.setIfInBounds_toArray, List.set_cons_zero, List.set_cons_succ]
                  refine Ord.Till.take' 8 (some 56) (oi := _) (x := ?_) rfl rfl (by kernel_rfl) (by kernel_rfl) (by kernel_rfl) (by kernel_rfl) (fun _ _ _ h => h) (by kernel_rfl) ?_ (hSall.out _ hb) ?_
                  rotate_left 1
                  · intro v hv; obtain ⟨z0, z1⟩ := hv; go_simp; first | done | with_reducible rfl
                  try simp only [Act.put, List.setIfInBounds_toArray, List.set_cons_zero, List.set_cons_succ]
                  have k0 := cell_of_row _ _ 0 _ _ _ row
                  have k1 := cell_of_row _ _ 1 _ _ _ row
                  have kf := fun o => frozen_of_row _ _ o _ _ row
                  have row1 := heap_setCell_same _ _ 0 _ _ (.slice AS n cS) row
                  have hrz := put2_row row (.slice AS n cS) (.slice AB m cB)
                  have hbz := put2_below hb hR (.slice AS n cS) (.slice AB m cB)
                  have oSz := (o_S.setc row (by decide) 0 (.slice AS n cS)).setc row1 (by decide) 1 (.slice AB m cB)
                  have oBz := (o_B.oth (Sls.Oth.put row (fun j hj => Below.heap_setCell _ ⟨_, 0, none⟩ (.slice AS n cS) j hj)) (by decide)).oth (Sls.Oth.put row1 (fun j hj => Below.heap_setCell _ ⟨_, 1, none⟩ (.slice AB m cB) j hj)) (by decide)
                  unfold put2 at hrz hbz
                  refine Ord.Till.step 10 (by kernel_rfl) rfl (fun C hC => ?_)
                  go_simp
                  refine hC.out _ _ (fun _ => hSall.out _ hbz) ?_
                  clear hC C
                  try simp only [List.getElem_toArray, List.getElem_cons_zero, List.getElem_cons_succ, Act.put, List.setIfInBounds_toArray, List.set_cons_zero, List.set_cons_succ]
                  refine Ord.Till.done (by kernel_rfl) ?_ _
                  clear k0 k1 kf
                  go_wp2_with fail
                  go_meet
                  exact ⟨_, AS, cS, AB, cB, rfl, hrz, hR, oSz, oBz, hbz⟩
              · go_simp
                have hb' := hb.alloc hb.size (.cells #[.slice none 0 0, .slice none 0 0] 25)
                replace o_B := o_B.alloc (.cells #[.slice none 0 0, .slice none 0 0] 25)
                have row := heap_alloc_new y27 (.cells #[.slice none 0 0, .slice none 0 0] 25)
                have hR := hb.size
                refine hC.out _ _ (fun _ => hSall.out _ hb') ?_
                clear hC C
                try simp only [List.getElem_toArray, List.getElem_cons_zero, List.getElem_cons_succ, Act.put, List.setIfInBounds_toArray, List.set_cons_zero, List.set_cons_succ]
                clear hb
                have hb := hb'
                clear hb'
                generalize y27.alloc (.cells #[.slice none 0 0, .slice none 0 0] 25) = y37 at *
                generalize y27.heap.size = g37 at *
                refine Ord.Till.step 0 (by kernel_rfl) rfl (fun C hC => ?_)
                go_simp
                have hb' := hb.alloc hb.size (.cells #[] 38)
                replace o_B := o_B.alloc (.cells #[] 38)
                replace row := (Below.heap_alloc y37 (.cells #[] 38) _ (Array.getElem?_eq_some_iff.1 row).1).trans row
                have o_S := syms_lit0 y37 V.heap.size hb.size
                refine hC.out _ _ (fun _ => hSall.out _ hb') ?_
                clear hC C
                try simp only [List.getElem_toArray, List.getElem_cons_zero, List.getElem_cons_succ, Act.put, List.setIfInBounds_toArray, List.set_cons_zero, List.set_cons_succ]
                clear hb
                have hb := hb'
                clear hb'
                generalize y37.alloc (.cells #[] 38) = y38 at *
                generalize y37.heap.size = g38 at *
                refine Ord.Till.step 3 (by kernel_rfl) rfl (fun C hC => ?_)
                refine step_syms y38 V.heap.size _ 0 [] o_S hb.size A n c w.heap.size xs (h.below (iV.on hb).b) (by omega) (by rfl) _ _ (by rfl) (by rfl) (by rfl) ?_
                intro v39 y39 o_S' hb' ho' hf'
                rw [Nat.zero_add, List.nil_append] at o_S'
                obtain ⟨AS, cS, rfl, _⟩ := o_S'.reads
                clear o_S
                have o_S := o_S'
                replace o_B := o_B.oth ho' (by decide)
                replace row := ho' _ _ row (fun _ _ e => by simp at e)
                replace hb := hb.trans hb'
                clear hb' ho' hf' o_S'
                refine hC.out _ _ (fun _ => hSall.out _ hb) ?_
                clear hC C
                try simp only [List.getElem_toArray, List.getElem_cons_zero, List.getElem_cons_succ, Act.put, List.setIfInBounds_toArray, List.set_cons_zero, List.set_cons_succ]
                refine Ord.Till.step 7 (by kernel_rfl) rfl (fun C hC => ?_)
                refine step_app2 y39 V.heap.size _ 0 [] o_B hb.size B m d w.heap.size body (hB.below (iV.on hb).b) (by omega) (by rfl) _ _ (by rfl) (by rfl) (by rfl) ?_
                intro v40 y40 o_B' hb' ho'
                rw [Nat.zero_add, List.nil_append] at o_B'
                obtain ⟨AB, cB, rfl, _⟩ := o_B'.reads
                clear o_B
                have o_B := o_B'
                replace o_S := o_S.oth ho' (by decide)
                replace row := ho' _ _ row (fun _ _ e => by simp at e)
                replace hb := hb.trans hb'
                clear hb' ho' o_B'
                refine hC.out _ _ (fun _ => hSall.out _ hb) ?_
                clear hC C
                try simp only [List.getElem_toArray, List.getElem_cons_zero, List.getElem_cons_succ, Act.put, List.setIfInBounds_toArray, List.set_cons_zero, List.set_cons_succ]
                refine Ord.Till.take' 8 (some 56) (oi := _) (x := ?_) rfl rfl (by kernel_rfl) (by kernel_rfl) (by kernel_rfl) (by kernel_rfl) (fun _ _ _ h => h) (by kernel_rfl) ?_ (hSall.out _ hb) ?_
                rotate_left 1
                · intro v hv; obtain ⟨z0, z1⟩ := hv; go_simp; first | done | with_reducible rfl
                try simp only [Act.put, List.setIfInBounds_toArray, List.set_cons_zero, List.set_cons_succ]
                have k0 := cell_of_row _ _ 0 _ _ _ row
                have k1 := cell_of_row _ _ 1 _ _ _ row
                have kf := fun o => frozen_of_row _ _ o _ _ row
                have row1 := heap_setCell_same _ _ 0 _ _ (.slice AS n cS) row
                have hrz := put2_row row (.slice AS n cS) (.slice AB m cB)
                have hbz := put2_below hb hR (.slice AS n cS) (.slice AB m cB)
                have oSz := (o_S.setc row (by decide) 0 (.slice AS n cS)).setc row1 (by decide) 1 (.slice AB m cB)
                have oBz := (o_B.oth (Sls.Oth.put row (fun j hj => Below.heap_setCell _ ⟨_, 0, none⟩ (.slice AS n cS) j hj)) (by decide)).oth (Sls.Oth.put row1 (fun j hj => Below.heap_setCell _ ⟨_, 1, none⟩ (.slice AB m cB) j hj)) (by decide)
                unfold put2 at hrz hbz
                refine Ord.Till.step 10 (by kernel_rfl) rfl (fun C hC => ?_)
                go_simp
                refine hC.out _ _ (fun _ => hSall.out _ hbz) ?_
                clear hC C
                try simp only [List.getElem_toArray, List.getElem_cons_zero, List.getElem_cons_succ, Act.put, List.setIfInBounds_toArray, List.set_cons_zero, List.set_cons_succ]
                refine Ord.Till.done (by kernel_rfl) ?_ _
                clear k0 k1 kf
                go_wp2_with fail
                go_meet
                exact ⟨_, AS, cS, AB, cB, rfl, hrz, hR, oSz, oBz, hbz⟩
            · go_simp
              have hb' := hb.alloc hb.size (.cells #[.slice none 0 0, .slice none 0 0] 25)
              have row := heap_alloc_new y0 (.cells #[.slice none 0 0, .slice none 0 0] 25)
              have hR := hb.size
              refine hC.out _ _ (fun _ => hSall.out _ hb') ?_
              clear hC C
              try simp only [List.getElem_toArray, List.getElem_cons_zero, List.getElem_cons_succ, Act.put, List.setIfInBounds_toArray, List.set_cons_zero, List.set_cons_succ]
              clear hb
              have hb := hb'
              clear hb'
              generalize y0.alloc (.cells #[.slice none 0 0, .slice none 0 0] 25) = y41 at *
              generalize y0.heap.size = g41 at *
              refine Ord.Till.two 0 4 (by kernel_rfl) rfl rfl (fun C hC => ?_) (fun C hC => ?_)
              · go_simp
                have hb' := hb.alloc hb.size (.cells #[] 38)
                replace row := (Below.heap_alloc y41 (.cells #[] 38) _ (Array.getElem?_eq_some_iff.1 row).1).trans row
                have o_S := syms_lit0 y41 V.heap.size hb.size
                refine hC.out _ _ (fun _ => hSall.out _ hb') ?_
                clear hC C
                try simp only [List.getElem_toArray, List.getElem_cons_zero, List.getElem_cons_succ, Act.put, List.setIfInBounds_toArray, List.set_cons_zero, List.set_cons_succ]
                clear hb
                have hb := hb'
                clear hb'
                generalize y41.alloc (.cells #[] 38) = y42 at *
                generalize y41.heap.size = g42 at *
                refine Ord.Till.two 3 4 (by kernel_rfl) rfl rfl (fun C hC => ?_) (fun C hC => ?_)
                · refine step_syms y42 V.heap.size _ 0 [] o_S hb.size A n c w.heap.size xs (h.below (iV.on hb).b) (by omega) (by rfl) _ _ (by rfl) (by rfl) (by rfl) ?_
                  intro v43 y43 o_S' hb' ho' hf'
                  rw [Nat.zero_add, List.nil_append] at o_S'
                  obtain ⟨AS, cS, rfl, _⟩ := o_S'.reads
                  clear o_S
                  have o_S := o_S'
                  replace row := ho' _ _ row (fun _ _ e => by simp at e)
                  replace hb := hb.trans hb'
                  clear hb' ho' hf' o_S'
                  refine hC.out _ _ (fun _ => hSall.out _ hb) ?_
                  clear hC C
                  try simp only [List.getElem_toArray, List.getElem_cons_zero, List.getElem_cons_succ, Act.put, List.setIfInBounds_toArray, List.set_cons_zero, List.set_cons_succ]
                  refine Ord.Till.step 4 (by kernel_rfl) rfl (fun C hC => ?_)
                  go_simp
                  have hb' := hb.alloc hb.size (.cells #[] 5)
                  replace o_S := o_S.alloc (.cells #[] 5)
                  replace row := (Below.heap_alloc y43 (.cells #[] 5) _ (Array.getElem?_eq_some_iff.1 row).1).trans row
                  have o_B := Byt.Own.lit0 y43 V.heap.size hb.size
                  refine hC.out _ _ (fun _ => hSall.out _ hb') ?_
                  clear hC C
                  try simp only [List.getElem_toArray, List.getElem_cons_zero, List.getElem_cons_succ, Act.put, List.setIfInBounds_toArray, List.set_cons_zero, List.set_cons_succ]
                  clear hb
                  have hb := hb'
                  clear hb'
                  generalize y43.alloc (.cells #[] 5) = y44 at *
                  generalize y43.heap.size = g44 at *
                  refine Ord.Till.step 7 (by kernel_rfl) rfl (fun C hC => ?_)
                  refine step_app2 y44 V.heap.size _ 0 [] o_B hb.size B m d w.heap.size body (hB.below (iV.on hb).b) (by omega) (by rfl) _ _ (by rfl) (by rfl) (by rfl) ?_
                  intro v45 y45 o_B' hb' ho'
                  rw [Nat.zero_add, List.nil_append] at o_B'
                  obtain ⟨AB, cB, rfl, _⟩ := o_B'.reads
                  clear o_B
                  have o_B := o_B'
                  replace o_S := o_S.oth ho' (by decide)
                  replace row := ho' _ _ row (fun _ _ e => by simp at e)
                  replace hb := hb.trans hb'
                  clear hb' ho' o_B'
                  refine hC.out _ _ (fun _ => hSall.out _ hb) ?_
                  clear hC C
                  try simp only [List.getElem_toArray, List.getElem_cons_zero, List.getElem_cons_succ, Act.put, List.setIfInBounds_toArray, List.set_cons_zero, List.set_cons_succ]
                  refine Ord.Till.take' 8 (some 56) (oi := _) (x := ?_) rfl rfl (by kernel_rfl) (by kernel_rfl) (by kernel_rfl) (by kernel_rfl) (fun _ _ _ h => h) (by kernel_rfl) ?_ (hSall.out _ hb) ?_
                  rotate_left 1
                  · intro v hv; obtain ⟨z0, z1⟩ := hv; go_simp; first | done | with_reducible rfl
                  try simp only [Act.put, List.setIfInBounds_toArray, List.set_cons_zero, List.set_cons_succ]
                  have k0 := cell_of_row _ _ 0 _ _ _ row
                  have k1 := cell_of_row _ _ 1 _ _ _ row
                  have kf := fun o => frozen_of_row _ _ o _ _ row
                  have row1 := heap_setCell_same _ _ 0 _ _ (.slice AS n cS) row
                  have hrz := put2_row row (.slice AS n cS) (.slice AB m cB)
                  have hbz := put2_below hb hR (.slice AS n cS) (.slice AB m cB)
                  have oSz := (o_S.setc row (by decide) 0 (.slice AS n cS)).setc row1 (by decide) 1 (.slice AB m cB)
                  have oBz := (o_B.oth (Sls.Oth.put row (fun j hj => Below.heap_setCell _ ⟨_, 0, none⟩ (.slice AS n cS) j hj)) (by decide)).oth (Sls.Oth.put row1 (fun j hj => Below.heap_setCell _ ⟨_, 1, none⟩ (.slice AB m cB) j hj)) (by decide)
                  unfold put2 at hrz hbz
                  refine Ord.Till.step 10 (by kernel_rfl) rfl (fun C hC => ?_)
                  go_simp
                  refine hC.out _ _ (fun _ => hSall.out _ hbz) ?_
                  clear hC C
                  try simp only [List.getElem_toArray, List.getElem_cons_zero, List.getElem_cons_succ, Act.put, List.setIfInBounds_toArray, List.set_cons_zero, List.set_cons_succ]
                  refine Ord.Till.done (by kernel_rfl) ?_ _
                  clear k0 k1 kf
                  go_wp2_with fail
                  go_meet
                  exact ⟨_, AS, cS, AB, cB, rfl, hrz, hR, oSz, oBz, hbz⟩
                · go_simp
                  have hb' := hb.alloc hb.size (.cells #[] 5)
                  replace o_S := o_S.alloc (.cells #[] 5)
                  replace row := (Below.heap_alloc y42 (.cells #[] 5) _ (Array.getElem?_eq_some_iff.1 row).1).trans row
                  have o_B := Byt.Own.lit0 y42 V.heap.size hb.size
                  refine hC.out _ _ (fun _ => hSall.out _ hb') ?_
                  clear hC C
                  try simp only [List.getElem_toArray, List.getElem_cons_zero, List.getElem_cons_succ, Act.put, List.setIfInBounds_toArray, List.set_cons_zero, List.set_cons_succ]
                  clear hb
                  have hb := hb'
                  clear hb'
                  generalize y42.alloc (.cells #[] 5) = y46 at *
                  generalize y42.heap.size = g46 at *
                  refine Ord.Till.step 3 (by kernel_rfl) rfl (fun C hC => ?_)
                  refine step_syms y46 V.heap.size _ 0 [] o_S hb.size A n c w.heap.size xs (h.below (iV.on hb).b) (by omega) (by rfl) _ _ (by rfl) (by rfl) (by rfl) ?_
                  intro v47 y47 o_S' hb' ho' hf'
                  rw [Nat.zero_add, List.nil_append] at o_S'
                  obtain ⟨AS, cS, rfl, _⟩ := o_S'.reads
                  clear o_S
                  have o_S := o_S'
                  replace o_B := o_B.oth ho' (by decide)
                  replace row := ho' _ _ row (fun _ _ e => by simp at e)
                  replace hb := hb.trans hb'
                  clear hb' ho' hf' o_S'
                  refine hC.out _ _ (fun _ => hSall.out _ hb) ?_
                  clear hC C
                  try simp only [List.getElem_toArray, List.getElem_cons_zero, List.getElem_cons_succ, Act.put, List.setIfInBounds_toArray, List.set_cons_zero, List.set_cons_succ]
                  refine Ord.Till.step 7 (by kernel_rfl) rfl (fun C hC => ?_)
                  refine step_app2 y47 V.heap.size _ 0 [] o_B hb.size B m d w.heap.size body (hB.below (iV.on hb).b) (by omega) (by rfl) _ _ (by rfl) (by rfl) (by rfl) ?_
                  intro v48 y48 o_B' hb' ho'
                  rw [Nat.zero_add, List.nil_append] at o_B'
                  obtain ⟨AB, cB, rfl, _⟩ := o_B'.reads
                  clear o_B
                  have o_B := o_B'
                  replace o_S := o_S.oth ho' (by decide)
                  replace row := ho' _ _ row (fun _ _ e => by simp at e)
                  replace hb := hb.trans hb'
                  clear hb' ho' o_B'
                  refine hC.out _ _ (fun _ => hSall.out _ hb) ?_
                  clear hC C
                  try simp only [List.getElem_toArray, List.getElem_cons_zero, List.getElem_cons_succ, Act.put, List.setIfInBounds_toArray, List.set_cons_zero, List.set_cons_succ]
                  refine Ord.Till.take' 8 (some 56) (oi := _) (x := ?_) rfl rfl (by kernel_rfl) (by kernel_rfl) (by kernel_rfl) (by kernel_rfl) (fun _ _ _ h => h) (by kernel_rfl) ?_ (hSall.out _ hb) ?_
                  rotate_left 1
                  · intro v hv; obtain ⟨z0, z1⟩ := hv; go_simp; first | done | with_reducible rfl
                  try simp only [Act.put, List.setIfInBounds_toArray, List.set_cons_zero, List.set_cons_succ]
                  have k0 := cell_of_row _ _ 0 _ _ _ row
                  have k1 := cell_of_row _ _ 1 _ _ _ row
                  have kf := fun o => frozen_of_row _ _ o _ _ row
                  have row1 := heap_setCell_same _ _ 0 _ _ (.slice AS n cS) row
                  have hrz := put2_row row (.slice AS n cS) (.slice AB m cB)
                  have hbz := put2_below hb hR (.slice AS n cS) (.slice AB m cB)
                  have oSz := (o_S.setc row (by decide) 0 (.slice AS n cS)).setc row1 (by decide) 1 (.slice AB m cB)
                  have oBz := (o_B.oth (Sls.Oth.put row (fun j hj => Below.heap_setCell _ ⟨_, 0, none⟩ (.slice AS n cS) j hj)) (by decide)).oth (Sls.Oth.put row1 (fun j hj => Below.heap_setCell _ ⟨_, 1, none⟩ (.slice AB m cB) j hj)) (by decide)
                  unfold put2 at hrz hbz
                  refine Ord.Till.step 10 (by kernel_rfl) rfl (fun C hC => ?_)
                  go_simp
                  refine hC.out _ _ (fun _ => hSall.out _ hbz) ?_
                  clear hC C
                  try simp only [List.getElem_toArray, List.getElem_cons_zero, List.getElem_cons_succ, Act.put, List.setIfInBounds_toArray, List.set_cons_zero, List.set_cons_succ]
                  refine Ord.Till.done (by kernel_rfl) ?_ _
                  clear k0 k1 kf
                  go_wp2_with fail
                  go_meet
                  exact ⟨_, AS, cS, AB, cB, rfl, hrz, hR, oSz, oBz, hbz⟩
              · go_simp
                have hb' := hb.alloc hb.size (.cells #[] 5)
                replace row := (Below.heap_alloc y41 (.cells #[] 5) _ (Array.getElem?_eq_some_iff.1 row).1).trans row
                have o_B := Byt.Own.lit0 y41 V.heap.size hb.size
                refine hC.out _ _ (fun _ => hSall.out _ hb') ?_
                clear hC C
                try simp only [List.getElem_toArray, List.getElem_cons_zero, List.getElem_cons_succ, Act.put, List.setIfInBounds_toArray, List.set_cons_zero, List.set_cons_succ]
                clear hb
                have hb := hb'
                clear hb'
                generalize y41.alloc (.cells #[] 5) = y49 at *
                generalize y41.heap.size = g49 at *
                refine Ord.Till.step 0 (by kernel_rfl) rfl (fun C hC => ?_)
                go_simp
                have hb' := hb.alloc hb.size (.cells #[] 38)
                replace o_B := o_B.alloc (.cells #[] 38)
                replace row := (Below.heap_alloc y49 (.cells #[] 38) _ (Array.getElem?_eq_some_iff.1 row).1).trans row
                have o_S := syms_lit0 y49 V.heap.size hb.size
                refine hC.out _ _ (fun _ => hSall.out _ hb') ?_
                clear hC C
                try simp only [List.getElem_toArray, List.getElem_cons_zero, List.getElem_cons_succ, Act.put, List.setIfInBounds_toArray, List.set_cons_zero, List.set_cons_succ]
                clear hb
                have hb := hb'
                clear hb'
                generalize y49.alloc (.cells #[] 38) = y50 at *
                generalize y49.heap.size = g50 at *
                refine Ord.Till.step 3 (by kernel_rfl) rfl (fun C hC => ?_)
                refine step_syms y50 V.heap.size _ 0 [] o_S hb.size A n c w.heap.size xs (h.below (iV.on hb).b) (by omega) (by rfl) _ _ (by rfl) (by rfl) (by rfl) ?_
                intro v51 y51 o_S' hb' ho' hf'
                rw [Nat.zero_add, List.nil_append] at o_S'
                obtain ⟨AS, cS, rfl, _⟩ := o_S'.reads
                clear o_S
                have o_S := o_S'
                replace o_B := o_B.oth ho' (by decide)
                replace row := ho' _ _ row (fun _ _ e => by simp at e)
                replace hb := hb.trans hb'
                clear hb' ho' hf' o_S'
                refine hC.out _ _ (fun _ => hSall.out _ hb) ?_
                clear hC C
                try simp only [List.getElem_toArray, List.getElem_cons_zero, List.getElem_cons_succ, Act.put, List.setIfInBounds_toArray, List.set_cons_zero, List.set_cons_succ]
                refine Ord.Till.step 7 (by kernel_rfl) rfl (fun C hC => ?_)
                refine step_app2 y51 V.heap.size _ 0 [] o_B hb.size B m d w.heap.size body (hB.below (iV.on hb).b) (by omega) (by rfl) _ _ (by rfl) (by rfl) (by rfl) ?_
                intro v52 y52 o_B' hb' ho'
                rw [Nat.zero_add, List.nil_append] at o_B'
                obtain ⟨AB, cB, rfl, _⟩ := o_B'.reads
                clear o_B
                have o_B := o_B'
                replace o_S := o_S.oth ho' (by decide)
                replace row := ho' _ _ row (fun _ _ e => by simp at e)
                replace hb := hb.trans hb'
                clear hb' ho' o_B'
                refine hC.out _ _ (fun _ => hSall.out _ hb) ?_
                clear hC C
                try simp only [List.getElem_toArray, List.getElem_cons_zero, List.getElem_cons_succ, Act.put, List.setIfInBounds_toArray, List.set_cons_zero, List.set_cons_succ]
                refine Ord.Till.take' 8 (some 56) (oi := _) (x := ?_) rfl rfl (by kernel_rfl) (by kernel_rfl) (by kernel_rfl) (by kernel_rfl) (fun _ _ _ h => h) (by kernel_rfl) ?_ (hSall.out _ hb) ?_
                rotate_left 1
                · intro v hv; obtain ⟨z0, z1⟩ := hv; go_simp; first | done | with_reducible rfl
                try simp only [Act.put, List.setIfInBounds_toArray, List.set_cons_zero, List.set_cons_succ]
                have k0 := cell_of_row _ _ 0 _ _ _ row
                have k1 := cell_of_row _ _ 1 _ _ _ row
                have kf := fun o => frozen_of_row _ _ o _ _ row
                have row1 := heap_setCell_same _ _ 0 _ _ (.slice AS n cS) row
                have hrz := put2_row row (.slice AS n cS) (.slice AB m cB)
                have hbz := put2_below hb hR (.slice AS n cS) (.slice AB m cB)
                have oSz := (o_S.setc row (by decide) 0 (.slice AS n cS)).setc row1 (by decide) 1 (.slice AB m cB)
                have oBz := (o_B.oth (Sls.Oth.put row (fun j hj => Below.heap_setCell _ ⟨_, 0, none⟩ (.slice AS n cS) j hj)) (by decide)).oth (Sls.Oth.put row1 (fun j hj => Below.heap_setCell _ ⟨_, 1, none⟩ (.slice AB m cB) j hj)) (by decide)
                unfold put2 at hrz hbz
                refine Ord.Till.step 10 (by kernel_rfl) rfl (fun C hC => ?_)
                go_simp
                refine hC.out _ _ (fun _ => hSall.out _ hbz) ?_
                clear hC C
                try simp only [List.getElem_toArray, List.getElem_cons_zero, List.getElem_cons_succ, Act.put, List.setIfInBounds_toArray, List.set_cons_zero, List.set_cons_succ]
                refine Ord.Till.done (by kernel_rfl) ?_ _
                clear k0 k1 kf
                go_wp2_with fail
                go_meet
                exact ⟨_, AS, cS, AB, cB, rfl, hrz, hR, oSz, oBz, hbz⟩
          case rest =>
            obtain ⟨g9, A7, c7, B7, d7, rfl, hrow9, hg9, oS, oB, hb9⟩ := hcut
            have i9 := iV.on hb9
            have hr9 := hrV.below (hb9.mono hKV)
            obtain ⟨_, _, eS, hrS, _⟩ := oS.reads
            injection eS with eS1 _ eS3
            subst eS1 eS3
            obtain ⟨_, _, eB, hrB, _⟩ := oB.reads
            injection eB with eB1 _ eB3
            subst eB1 eB3
            have hs9 := rds_of hrS hnm
            have hK9 : K ≤ wc.heap.size := Nat.le_trans hKV hb9.size
            have h9l := (Array.getElem?_eq_some_iff.1 hrow9).1
            clear hrS oS oB hb9 hrV
            have e0 := cell_of_row _ g9 0 _ _ _ hrow9
            have e1 := cell_of_row _ g9 1 _ _ _ hrow9
            go_wp2_with fail
            refine (encode_any wc.heap.size A7 B7 n c7 m d7 xs body wc hs9 hrB (Nat.le_refl _) (by omega)).mono ?_
            rintro e w12 hE
            obtain ⟨A10, n10, c10, z10, L10, rfl, o10, hn10L, hb12⟩ := enc_owned hE (by have := hl.out; omega) (by have := hlB.out; omega)
            clear hE e0 e1
            go_wp2_with fail
            obtain ⟨K2, hK2⟩ : ∃ K2, wc.heap.size = K2 := ⟨_, rfl⟩
            have i12 := i9.on hb12
            have hlt9 := i9.lt
            have hs12 := hs9.below hb12
            have hrB12 := hrB.below hb12
            have hr12 := hr9.below (hb12.mono hK9)
            have hrow12 := (hb12.block g9 h9l).trans hrow9
            have hKw := hb12.size
            rw [hK2] at o10 hs12 hrB12 h9l hlt9 hKw
            have hKK : K ≤ K2 := by omega
            have hn10 : n10 ≤ 140737488355328 := by omega
            clear hrow9 i9 hs9 hrB hr9 hb12 hK2
            go_loopw [12] (fun i W => ∃ j : Nat, i = .int .i64 (j : Int) ∧ j ≤ n10 ∧ Same K2 w12 W) (fun i _ => n10 - (intOf i).toNat)
            case atStart => exact ⟨0, rfl, Nat.zero_le _, Same.refl _ _⟩
            case round =>
              obtain ⟨j, rfl, hjn, hS⟩ := hrel
              by_cases hj : j < n10
              · have hji : (j : Int) < (n10 : Int) := by omega
                obtain ⟨g3, o3, x, rfl, hnc3, hx, hf, hput⟩ := hS.at_ o10 hj
                go_wp2_with fail
                go_roundw
                all_goals first
                  | exact ⟨j + 1, by go_num, by omega, hput _⟩
                  | (simp [intOf]; done)
                  | (simp [intOf]; omega)
              · have hji : ¬ (j : Int) < (n10 : Int) := by omega
                have iZ := i12.above hlt9 hS.1
                have hsZ := hs12.below hS.1
                have hBZ := hrB12.below hS.1
                have hrZ := hr12.below (hS.1.mono hKK)
                have hrowZ := (hS.1.block g9 h9l).trans hrow12
                have hKZ : K2 ≤ wr.heap.size := Nat.le_trans hKw hS.1.size
                clear hS i12 hs12 hrB12 hr12 hrow12 o10
                go_wp2_with fail
                refine (Dec.same_any 15 rfl w.heap.size K A' A3 n' c' n' c3 l l wr (hr.below iZ.b) hrZ (by omega)).mono ?_
                rintro e wf ⟨rfl, nf, hwf⟩
                rw [beq_self_eq_true]
                have hbf : Below wr.heap.size wr wf := by rw [hwf]; exact Obj.below_drewN _ _
                have iF := iZ.on hbf
                have hsF := hsZ.below (hbf.mono hKZ)
                have hBF := hBZ.below (hbf.mono hKZ)
                have hrowF := (hbf.block g9 (Nat.lt_of_lt_of_le h9l hKZ)).trans hrowZ
                have hKF : K2 ≤ wf.heap.size := Nat.le_trans hKZ hbf.size
                clear hwf
                have e0 := cell_of_row _ g9 0 _ _ _ hrowF
                have e1 := cell_of_row _ g9 1 _ _ _ hrowF
                have q0 := iF.c0
                have q1 := iF.c1
                go_wp2_with fail
                refine (rsame_any K2 A7 B7 A B n c7 m d7 n c m d xs xs body body wf hsF ((h.below iF.b).more (Nat.le_of_lt hlt9)) hBF ((hB.below iF.b).more (Nat.le_of_lt hlt9)) hKF (by omega) (by omega)).mono ?_
                rintro e wg ⟨rfl, hbg⟩
                rw [sameS_eq.2 rfl, beq_self_eq_true]
                go_wp2_with fail
                go_ret
                exact ⟨rfl, (iF.on hbg).b⟩

set_option maxRecDepth 100000 in
theorem proved : Rows.ObjsymKeepsSaid :=
  OpenClaim.holds_of_wide 7 Try.f7 rfl rfl rfl rfl rfl rfl rfl ⟨rfl, rfl, rfl, rfl, rfl⟩ rfl rfl rfl rfl rfl (by kernel_rfl) Try.func7 (by kernel_rfl)
    (of_decide_eq_true (by kernel_rfl)) (by unfold Func.isWrapper; rw [if_neg (of_decide_eq_false (by kernel_rfl))]; exact ⟨rfl, rfl⟩)
    (fun os started H enc _ => lifted (started := started) (s := Rows.objsymKeepsSpec) rfl
      (fun ds h => by match ds, h with | [_, _], _ => rfl) (by kernel_rfl)
      (by kernel_rfl) (by kernel_rfl) Try.func7
      (ChangeSpec.witness6 (enc := enc) (C := Try.checked) false ⟨#[], #[.agg #[.slice none 0 0, .slice none 0 0], .slice none 0 0], []⟩ 8 (by kernel_rfl) (by kernel_rfl) (by kernel_rfl) (by kernel_rfl))
      (fun W base args ds p h => by
        obtain ⟨hval, hA, _⟩ := h
        rw [show Try.f7.params = #[25, 23] from by kernel_rfl] at hA hval
        obtain ⟨v0, vs0, d0, ds0, p0, q0, hargs, rfl, rfl, k0, r0⟩ := trodAll_cons hA
        obtain ⟨v1, vs1, d1, ds1, p1, q1, rfl, rfl, rfl, k1, r1⟩ := trodAll_cons r0
        obtain ⟨rfl, rfl, rfl⟩ := trodAll_nil r1
        obtain rfl : args = #[v0, v1] := by cases args; simp_all
        obtain ⟨A0, n0, c0, B0, m0, e0, l0, b0, rfl, h0, g0, i0, j0, s0, t0⟩ := open_obj (hval 0 _ v0 rfl rfl) k0
        obtain ⟨A1, n1, c1, l1, rfl, h1, m1, g1⟩ := open_bytes (hval 1 _ v1 rfl rfl) k1
        exact walk W A0 n0 c0 B0 m0 e0 l0 b0 h0 g0 i0 j0 s0 t0 A1 n1 c1 l1 h1 m1 g1))
#print axioms proved
end Go.Proofs.Ytkacndinjomifaa.Keeps
