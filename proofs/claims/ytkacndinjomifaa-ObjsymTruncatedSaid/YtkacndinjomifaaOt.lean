/-
  ObjsymTruncated: an encoding that is cut off within its symbols is rejected with ErrShort; cut off within the Body, it is decoded with a shorter Body. For every object and every number: no condition.
-/
import Derived.Test.YtkacndinjomifaaOr
import Derived.Test.YtkacndinjomifaaOs
namespace Go.Proofs.Ytkacndinjomifaa.Truncated
open Go.ChangeShapes Go.WideShapes Go.ChangeAt Go.RowKit Go.Proofs Go.Proofs.Ytkacndinjomifaa.Byt Go.Proofs.Ytkacndinjomifaa.Obj Go.Proofs.Ytkacndinjomifaa.Frame

/-- Cut off within a symbol. -/
theorem decL_cut : ∀ (xs acc : List Sy) (r : List UInt8) (j : Nat), goodL acc xs = true → j < (encL xs).length → decL xs.length acc ((encL xs ++ r).take j) = (2, [], [])
  | [], _, _, _, _, h => absurd h (by simp [encL])
  | x :: xs, acc, r, j, h, hj => by
    unfold goodL at h
    rw [Bool.and_eq_true, Bool.and_eq_true] at h
    obtain ⟨⟨h1, h2⟩, h3⟩ := h
    have e : encL (x :: xs) ++ r = encS x ++ (encL xs ++ r) := by simp [encL]
    have hlen : (encL (x :: xs)).length = (encS x).length + (encL xs).length := by simp [encL]
    have hx := encS_length x
    have hn := nameOk_range (by unfold symOk at h2; rw [Bool.and_eq_true] at h2; exact h2.1)
    rw [e]
    by_cases hc : j < (encS x).length
    · have hcut : cutS ((encS x ++ (encL xs ++ r)).take j) := by
        unfold cutS
        have hl : ((encS x ++ (encL xs ++ r)).take j).length = j := by rw [List.length_take, List.length_append]; omega
        by_cases h10 : j < 10
        · left; omega
        · right
          have hk : kS ((encS x ++ (encL xs ++ r)).take j) = x.name.size := by
            rw [← kS_enc x hn.2 (encL xs ++ r)]
            unfold kS
            rw [List.getD_eq_getElem?_getD, List.getD_eq_getElem?_getD, List.getElem?_take_of_lt (by omega)]
          omega
      rw [List.length_cons, decL, if_pos hcut]
    · have ht : (encS x ++ (encL xs ++ r)).take j = encS x ++ (encL xs ++ r).take (j - (encS x).length) := by
        rw [List.take_append, List.take_of_length_le (by omega)]
      rw [ht, List.length_cons, decL, if_neg (not_cut_enc x h2 _), rdS_enc x h2, if_neg (by simp [h2]; simpa using h1), drop_enc x h2]
      exact decL_cut xs (acc ++ [x]) r _ h3 (by omega)
theorem decO_cut (xs : List Sy) (body : List UInt8) (k : Nat) (h : validO xs = true) (hk : k < 8 + (encL xs).length) : decO ((encO xs body).take k) = (2, [], []) := by
  unfold validO at h
  rw [Bool.and_eq_true, decide_eq_true_eq] at h
  have hl : (encO xs body).length = 8 + ((encL xs).length + body.length) := by simp [encO, magic, w4]; omega
  have hlk : ((encO xs body).take k).length = k := by rw [List.length_take]; omega
  unfold decO
  by_cases h4 : k < 4
  · rw [if_pos (by omega)]
  · have e4 : ((encO xs body).take k).take 4 = magic := by rw [List.take_take, Nat.min_eq_left (by omega)]; rfl
    rw [if_neg (by omega), if_neg (by simp [e4])]
    by_cases h8 : k < 8
    · rw [if_pos (by omega)]
    · have e5 : n4 (((encO xs body).take k).drop 4) = xs.length := by
        rw [List.drop_take]
        show n4 ((w4 xs.length ++ (encL xs ++ body)).take (k - 4)) = _
        unfold n4
        rw [List.take_take, Nat.min_eq_left (by omega)]
        exact n4_w4 xs.length (by omega) (encL xs ++ body)
      rw [if_neg (by omega), e5, if_neg (by omega), List.drop_take]
      exact decL_cut xs [] body (k - 8) h.2 (by omega)
theorem encO_take (xs : List Sy) (body : List UInt8) (k : Nat) (hk : 8 + (encL xs).length ≤ k) : (encO xs body).take k = encO xs (body.take (k - (8 + (encL xs).length))) := by
  unfold encO
  have h1 : (magic ++ (w4 xs.length ++ encL xs)).length = 8 + (encL xs).length := by simp [magic, w4]; omega
  have e : ∀ b : List UInt8, magic ++ (w4 xs.length ++ (encL xs ++ b)) = (magic ++ (w4 xs.length ++ encL xs)) ++ b := fun b => by simp
  rw [e, e, List.take_append, List.take_of_length_le (by omega), h1]

/-- A slice that is cut off. -/
theorem upto_run (A : Option Addr) (m d j : Nat) (hj : j ≤ m) (hd : m ≤ d) (i : Int) (hi : i = (j : Int)) (W : World) :
    (Instr.slice 23 (.slice A m d) none (some (.int .i64 i)) none).run Try.prog W = .ok (.slice A j d) W := by
  subst hi
  have h1 : (j : Int) ≤ (d : Int) := by omega
  rcases A with _ | a
  · go_simp
  · go_simp

set_option linter.unusedSimpArgs false in
set_option maxRecDepth 100000 in
set_option maxHeartbeats 8000000 in
theorem walk (w : World) (A : Option Addr) (n c : Nat) (B : Option Addr) (m d : Nat) (xs : List Sy) (body : List UInt8) (h : RdS w w.heap.size A n xs) (hB : Byt.Rd w w.heap.size B m body) (hnc : n ≤ c) (_hc : c ≤ maxLen) (_hmd : m ≤ d) (_hd : d ≤ maxLen) (q : Nat) (hq : q < 65536) :
    Calls Try.prog 5 #[.agg #[.slice A n c, .slice B m d], .int .u16 (q : Int)] w fun e w' => e = .returned (.bool true) ∧ Below w.heap.size w w' := by
  have i0 := In.start w A n c B m d
  go_enter Try.func5, Try.ntmps5
  go_wp2_with fail
  refine (awake_any _).mono ?_
  rintro e w1 ⟨rfl, hb1⟩
  have i1 := i0.on hb1
  have q0 := i1.c0
  have q1 := i1.c1
  clear hb1 i0
  go_wp2_with fail
  refine (rfew_any w.heap.size A B n c m d xs w1 (h.below i1.b) i1.b.size).mono ?_
  rintro e w2 ⟨rfl, hb2⟩
  have i2 := i1.on hb2
  clear q0 q1 hb2 i1
  cases hf : fewO xs m
  · go_wp2_with fail
    refine (awake_any _).mono ?_
    rintro e w9 ⟨rfl, hb9⟩
    go_wp2_with fail
    go_ret
    exact ⟨rfl, (i2.on hb9).b⟩
  · obtain ⟨k1, k2, k3⟩ := fewO_iff.1 hf
    have hl := hid h.1
    have hlB := hid hB.1
    have hn60 : n ≤ 60 := by have := hl.out; omega
    clear hf
    have q0 := i2.c0
    have q1 := i2.c1
    go_wp2_with fail
    refine (rvalid_any w.heap.size A B n c m d xs w2 (h.below i2.b) i2.b.size (by omega) hnc).mono ?_
    rintro e w3 ⟨rfl, hb3⟩
    have i3 := i2.on hb3
    clear q0 q1 hb3 i2
    cases hv : validO xs
    · go_wp2_with fail
      refine (awake_any _).mono ?_
      rintro e w9 ⟨rfl, hb9⟩
      go_wp2_with fail
      go_ret
      exact ⟨rfl, (i3.on hb9).b⟩
    · have Hlen := hid (encO_len (body := body) hv)
      obtain ⟨P, hPe⟩ : ∃ P, (encL xs).length = P := ⟨_, rfl⟩
      have HP := hid hPe
      have hP : Hid ((encO xs body).length = 8 + P + m) := hid (by rw [← hPe]; have := hlB.out; simp [encO, magic, w4]; omega)
      have q0 := i3.c0
      have q1 := i3.c1
      clear hPe
      go_wp2_with fail
      refine (rencode_any w.heap.size A B n c m d xs body w3 (h.below i3.b) (hB.below i3.b) i3.b.size (by omega) (by omega) hnc).mono ?_
      rintro e w4 hE
      obtain ⟨A1, n1, c1, rfl, hn1, _, hr1, hc1, hm1, hb4⟩ := hE.ok hv
      have i4 := i3.on hb4
      obtain ⟨b1, o1, rfl⟩ : ∃ b1 o1 : Nat, A1 = some ⟨b1, o1, none⟩ := by
        obtain ⟨b, o, e, _⟩ := hr1.2 0 (by have := hP.out; omega)
        exact ⟨b, o, e⟩
      have HnP := hid (hn1.trans hP.out)
      have hn1b : n1 ≤ 20000 := by have := hlB.out; have := hl.out; have := Hlen.out; omega
      obtain ⟨k, hk⟩ : ∃ k, q % (n1 + 1) = k := ⟨_, rfl⟩
      have hkn : k ≤ n1 := by have := Nat.mod_lt q (show 0 < n1 + 1 by omega); omega
      have hw1 : IntKind.i64.wrap ((n1 : Int) + 1) = (n1 : Int) + 1 := by rw [IntKind.wrap_i64]; omega
      have hw2 : IntKind.i64.wrap (q : Int) = (q : Int) := by rw [IntKind.wrap_i64]; omega
      have hmod : ((q : Int)).tmod ((n1 : Int) + 1) = (k : Int) := by rw [← hk]; exact (Int.ofNat_tmod q (n1 + 1)).symm
      have hw3 : IntKind.i64.wrap (k : Int) = (k : Int) := by rw [IntKind.wrap_i64]; omega
      have hne : ¬ (n1 : Int) + 1 = 0 := by omega
      clear hE hb4 i3 q0 q1 hn1 hk
      go_upto_region 5 with fail
      clear hw1 hw2 hmod hne
      have hkc : (k : Int) ≤ (c1 : Int) := by omega
      go_wp2_with fail
      refine (decode_any w4.heap.size (some ⟨b1, o1, none⟩) k c1 ((encO xs body).take k) w4 (hr1.pre hkn) (Nat.le_refl _) (by omega) hm1 (by omega)).mono ?_
      rintro e w5 hD
      obtain ⟨A5, n5, c5, B5, m5, d5, rfl, hs5, hB5, hnc5, hn5, hm5, _, _, hb5⟩ := hD.reads
      have i5 := i4.on hb5
      have hw4 : IntKind.i64.wrap ((n1 : Int) - (m : Int)) = 8 + (P : Int) := by rw [IntKind.wrap_i64]; have := HnP.out; omega
      have hw5 : IntKind.i64.wrap ((k : Int) - (8 + (P : Int))) = (k : Int) - (8 + (P : Int)) := by rw [IntKind.wrap_i64]; have := HnP.out; omega
      have hrow6 := heap_alloc_new w5 (.cells #[.slice A5 n5 c5, .slice B5 m5 d5] 25)
      have hb56 := (Below.refl w5.heap.size w5).alloc (Nat.le_refl _) (.cells #[.slice A5 n5 c5, .slice B5 m5 d5] 25)
      have i6 := i5.on hb56
      have hs6 := hs5.below hb56
      have hB6 := hB5.below hb56
      have hg : w.heap.size ≤ w5.heap.size := i5.b.size
      clear hD hb5 i5 i4 hs5 hB5
      by_cases hcut : k < 8 + P
      · have hcd := decO_cut xs body k hv (by rw [HP.out]; exact hcut)
        simp only [hcd]
        have hlt : (k : Int) - (8 + (P : Int)) < 0 := by omega
        have q0 := i6.c0
        have q1 := i6.c1
        go_wp2_with fail
        go_ret
        exact ⟨rfl, i6.b⟩
      · have hcd : decO ((encO xs body).take k) = (0, xs, body.take (k - (8 + P))) := by rw [encO_take xs body k (by rw [HP.out]; omega), HP.out]; exact decO_enc _ _ hv
        rw [hcd] at hs6 hB6
        simp only [hcd]
        have hlt : ¬ (k : Int) - (8 + (P : Int)) < 0 := by omega
        obtain ⟨j, hj⟩ : ∃ j, k - (8 + P) = j := ⟨_, rfl⟩
        have hji : (k : Int) - (8 + (P : Int)) = (j : Int) := by omega
        have hjm : j ≤ m := by have := HnP.out; omega
        rw [hj] at hB6
        have hsz6 := hb56.size
        have q0 := i6.c0
        have q1 := i6.c1
        rw [hji] at hw5
        clear hlt
        have hlt : ¬ (j : Int) < 0 := by omega
        clear hcd hcut hj hb56
        go_upto_region 9 with fail
        generalize w5.alloc (.cells #[.slice A5 n5 c5, .slice B5 m5 d5] 25) = V at *
        generalize w5.heap.size = g at *
        clear q0 q1 hw3 hw4 hw5 hji
        obtain ⟨B7, hrunB, hrdB⟩ : ∃ B7, (∀ W, (Instr.slice 23 (.slice B m d) none (some (.int .i64 (j : Int))) none).run Try.prog W = .ok (.slice B7 j d) W) ∧ ∀ K l W', Byt.Rd W' K B m l → Byt.Rd W' K B7 j (l.take j) := ⟨B, fun W => upto_run B m d j hjm _hmd (j : Int) rfl W, fun K l W' hr => hr.pre hjm⟩
        have HS : Hid (∀ W, Below V.heap.size V W → Calls Try.prog 16 #[.agg #[.slice A5 n5 c5, .slice B5 m5 d5], .agg #[.slice A n c, .slice B7 j d]] W fun e W' => e = .returned (.bool true) ∧ Below W.heap.size W W') := hid fun W hW => by
          have hbW := i6.b.trans (hW.mono i6.b.size)
          have a := rsame_any g A5 B5 A B7 n5 c5 m5 d5 n c j d xs xs (body.take j) (body.take j) W (hs6.below (hW.mono hsz6)) ((h.below hbW).more hg) (hB6.below (hW.mono hsz6)) ((hrdB _ _ _ (hB.below hbW)).more hg) (Nat.le_trans hsz6 hW.size) (by omega) (by have := HnP.out; have := hm5; rw [List.length_take] at this; omega)
          rw [sameS_eq.2 rfl, beq_self_eq_true] at a
          exact a
        have hSall : Hid (∀ W, Below V.heap.size V W → (W.cell? ⟨g, 0, none⟩ = some (.slice A5 n5 c5) ∧ W.cell? ⟨g, 1, none⟩ = some (.slice B5 m5 d5) ∧ W.cell? ⟨w.heap.size, 0, none⟩ = some (.slice A n c) ∧ W.cell? ⟨w.heap.size, 1, none⟩ = some (.slice B m d))) := hid fun W hW => by
          have i := i6.on hW
          have r := (hW.block g (Array.getElem?_eq_some_iff.1 hrow6).1).trans hrow6
          exact ⟨cell_of_row _ g 0 _ _ _ r, cell_of_row _ g 1 _ _ _ r, i.c0, i.c1⟩
        have hbX0 : Below V.heap.size V V.drew := (Below.refl _ _).drew
        clear hs6 hB6 hrow6
        refine Ord.Till.begin (fun W => W.cell? ⟨g, 0, none⟩ = some (.slice A5 n5 c5) ∧ W.cell? ⟨g, 1, none⟩ = some (.slice B5 m5 d5) ∧ W.cell? ⟨w.heap.size, 0, none⟩ = some (.slice A n c) ∧ W.cell? ⟨w.heap.size, 1, none⟩ = some (.slice B m d)) 60 (by kernel_rfl) ?_
        refine Ord.Till.take' 0 (some 54) (oi := _) (x := ?_) rfl rfl (by kernel_rfl) (by kernel_rfl) (by kernel_rfl) (by kernel_rfl) (fun _ _ _ h => h) (by kernel_rfl) ?_ (hSall.out _ hbX0) ?_
        rotate_left 1
        · intro v hv; obtain ⟨z0, z1, z2, z3⟩ := hv; go_simp; first | done | with_reducible rfl
        try simp only [Act.put, List.setIfInBounds_toArray, List.set_cons_zero, List.set_cons_succ]
        refine Ord.Till.take' 1 (some 55) (oi := _) (x := ?_) rfl rfl (by kernel_rfl) (by kernel_rfl) (by kernel_rfl) (by kernel_rfl) (fun _ _ _ h => h) (by kernel_rfl) ?_ (hSall.out _ hbX0) ?_
        rotate_left 1
        · intro v hv; obtain ⟨z0, z1, z2, z3⟩ := hv; go_simp; first | done | with_reducible rfl
        try simp only [Act.put, List.setIfInBounds_toArray, List.set_cons_zero, List.set_cons_succ]
        refine Ord.Till.take' 2 (some 56) (oi := _) (x := ?_) rfl rfl (by kernel_rfl) (by kernel_rfl) (by kernel_rfl) (by kernel_rfl) (fun _ _ _ h => h) (by kernel_rfl) ?_ (hSall.out _ hbX0) ?_
        rotate_left 1
        · intro v hv; obtain ⟨z0, z1, z2, z3⟩ := hv; go_simp; first | done | with_reducible rfl
        try simp only [Act.put, List.setIfInBounds_toArray, List.set_cons_zero, List.set_cons_succ]
        refine Ord.Till.take' 3 (some 57) (oi := _) (x := ?_) rfl rfl (by kernel_rfl) (by kernel_rfl) (by kernel_rfl) (by kernel_rfl) (fun _ _ _ h => h) (by kernel_rfl) ?_ (hSall.out _ hbX0) ?_
        rotate_left 1
        · intro v hv; obtain ⟨z0, z1, z2, z3⟩ := hv; go_simp; first | done | with_reducible rfl
        try simp only [Act.put, List.setIfInBounds_toArray, List.set_cons_zero, List.set_cons_succ]
        refine Ord.Till.take' 4 (some 58) (oi := _) (x := ?_) rfl rfl (by kernel_rfl) (by kernel_rfl) (by kernel_rfl) (by kernel_rfl) (fun _ _ _ h => h) (by kernel_rfl) ?_ (hSall.out _ hbX0) ?_
        rotate_left 1
        · intro v hv; obtain ⟨z0, z1, z2, z3⟩ := hv; go_simp; first | done | with_reducible rfl
        try simp only [Act.put, List.setIfInBounds_toArray, List.set_cons_zero, List.set_cons_succ]
        refine Ord.Till.take' 5 (some 59) (oi := _) (x := ?_) rfl rfl (by kernel_rfl) (by kernel_rfl) (by kernel_rfl) (by kernel_rfl) (fun _ _ _ h => h) (by kernel_rfl) ?_ (hSall.out _ hbX0) ?_
        rotate_left 1
        · intro v hv; obtain ⟨z0, z1, z2, z3⟩ := hv; go_simp; first | done | with_reducible rfl
        try simp only [Act.put, List.setIfInBounds_toArray, List.set_cons_zero, List.set_cons_succ]
        refine Ord.Till.take' 6 (some 60) (oi := _) (x := ?_) rfl rfl (by kernel_rfl) (by kernel_rfl) (by kernel_rfl) (by kernel_rfl) (fun _ _ _ h => h) (by kernel_rfl) ?_ (hSall.out _ hbX0) ?_
        rotate_left 1
        · intro v hv; obtain ⟨z0, z1, z2, z3⟩ := hv; go_simp; first | done | with_reducible rfl
        try simp only [Act.put, List.setIfInBounds_toArray, List.set_cons_zero, List.set_cons_succ]
        refine Ord.Till.take' 7 (some 61) (oi := _) (x := ?_) rfl rfl (by kernel_rfl) (by kernel_rfl) (by kernel_rfl) (by kernel_rfl) (fun _ _ _ h => h) (by kernel_rfl) ?_ (hSall.out _ hbX0) ?_
        rotate_left 1
        · intro v hv; obtain ⟨z0, z1, z2, z3⟩ := hv; go_simp; first | done | with_reducible rfl
        try simp only [Act.put, List.setIfInBounds_toArray, List.set_cons_zero, List.set_cons_succ]
        refine Ord.Till.take' 8 (some 62) (oi := _) (x := ?_) rfl rfl (by kernel_rfl) (by kernel_rfl) (by kernel_rfl) (by kernel_rfl) (fun _ _ _ h => h) (by kernel_rfl) ?_ (hSall.out _ hbX0) ?_
        rotate_left 1
        · intro v hv; obtain ⟨z0, z1, z2, z3⟩ := hv; go_simp; first | done | with_reducible rfl
        try simp only [Act.put, List.setIfInBounds_toArray, List.set_cons_zero, List.set_cons_succ]
        refine Ord.Till.take' 9 (some 63) (oi := _) (x := ?_) rfl rfl (by kernel_rfl) (by kernel_rfl) (by kernel_rfl) (by kernel_rfl) (fun _ _ _ h => h) (by kernel_rfl) ?_ (hSall.out _ hbX0) ?_
        rotate_left 1
        · intro v hv; obtain ⟨z0, z1, z2, z3⟩ := hv; go_simp; first | done | with_reducible rfl
        try simp only [Act.put, List.setIfInBounds_toArray, List.set_cons_zero, List.set_cons_succ]
        refine Ord.Till.take' 10 (some 64) (oi := _) (x := ?_) rfl rfl (by kernel_rfl) (by kernel_rfl) (by kernel_rfl) (by kernel_rfl) (fun _ _ _ h => h) (by kernel_rfl) ?_ (hSall.out _ hbX0) ?_
        rotate_left 1
        · intro v hv; obtain ⟨z0, z1, z2, z3⟩ := hv; go_simp; first | done | with_reducible rfl
        try simp only [Act.put, List.setIfInBounds_toArray, List.set_cons_zero, List.set_cons_succ]
        refine Ord.Till.step 11 (by kernel_rfl) rfl (fun C hC => ?_)
        go_simp
        go_at_call 16
        refine (HS.out _ hbX0).mono ?_
        rintro e w8 ⟨rfl, hb8⟩
        have hbB := hbX0.trans (hb8.mono hbX0.size)
        clear hb8
        refine hC.out _ _ (fun _ => hSall.out _ hbB) ?_
        clear hC C
        try simp only [Act.put, List.setIfInBounds_toArray, List.set_cons_zero, List.set_cons_succ]
        refine Ord.Till.take' 12 (some 66) (oi := _) (x := ?_) rfl rfl (by kernel_rfl) (by kernel_rfl) (by kernel_rfl) (by kernel_rfl) (fun _ _ _ h => h) (by kernel_rfl) ?_ (hSall.out _ hbB) ?_
        rotate_left 1
        · intro v hv; obtain ⟨z0, z1, z2, z3⟩ := hv; go_simp; first | done | with_reducible rfl
        try simp only [Act.put, List.setIfInBounds_toArray, List.set_cons_zero, List.set_cons_succ]
        refine Ord.Till.take' 13 (some 4) (oi := _) (x := ?_) rfl rfl (by kernel_rfl) (by kernel_rfl) (by kernel_rfl) (by kernel_rfl) (fun _ _ _ h => h) (by kernel_rfl) ?_ (hSall.out _ hbB) ?_
        rotate_left 1
        · intro v hv; obtain ⟨z0, z1, z2, z3⟩ := hv; go_simp; first | done | with_reducible rfl
        try simp only [Act.put, List.setIfInBounds_toArray, List.set_cons_zero, List.set_cons_succ]
        refine Ord.Till.done (by kernel_rfl) ?_ _
        go_wp2_with fail
        go_ret
        exact ⟨rfl, (i6.on hbB).b⟩

set_option maxRecDepth 100000 in
theorem proved : Rows.ObjsymTruncatedSaid :=
  OpenClaim.holds_of_wide 5 Try.f5 rfl rfl rfl rfl rfl rfl rfl ⟨rfl, rfl, rfl, rfl, rfl⟩ rfl rfl rfl rfl rfl (by kernel_rfl) Try.func5 (by kernel_rfl)
    (of_decide_eq_true (by kernel_rfl)) (by unfold Func.isWrapper; rw [if_neg (of_decide_eq_false (by kernel_rfl))]; exact ⟨rfl, rfl⟩)
    (fun os started H enc _ => lifted (started := started) (s := Rows.objsymTruncatedSpec) rfl
      (fun ds h => by match ds, h with | [_, _], _ => rfl) (by kernel_rfl)
      (by kernel_rfl) (by kernel_rfl) Try.func5
      (ChangeSpec.witness6 (enc := enc) (C := Try.checked) false ⟨#[], #[.agg #[.slice none 0 0, .slice none 0 0], .int .u16 0], []⟩ 8 (by kernel_rfl) (by kernel_rfl) (by kernel_rfl) (by kernel_rfl))
      (fun W base args ds p h => by
        obtain ⟨hval, hA, _⟩ := h
        rw [show Try.f5.params = #[25, 45] from by kernel_rfl] at hA hval
        obtain ⟨v0, vs0, d0, ds0, p0, q0, hargs, rfl, rfl, k0, r0⟩ := trodAll_cons hA
        obtain ⟨v1, vs1, d1, ds1, p1, q1, rfl, rfl, rfl, k1, r1⟩ := trodAll_cons r0
        obtain ⟨rfl, rfl, rfl⟩ := trodAll_nil r1
        obtain rfl : args = #[v0, v1] := by cases args; simp_all
        obtain ⟨A0, n0, c0, B0, m0, e0, l0, b0, rfl, h0, g0, i0, j0, s0, t0⟩ := open_obj (hval 0 _ v0 rfl rfl) k0
        obtain ⟨a1, rfl, u1⟩ := open_u16 (hval 1 _ v1 rfl rfl) k1
        exact walk W A0 n0 c0 B0 m0 e0 l0 b0 h0 g0 i0 j0 s0 t0 a1 u1))
#print axioms proved
end Go.Proofs.Ytkacndinjomifaa.Truncated
