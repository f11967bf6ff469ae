/-
  ObjsymPrefix: an object with fewer symbols of a valid object is valid; with a symbol twice it is not. For every object and every number: no condition.
-/
import Derived.Test.YtkacndinjomifaaOr
import Derived.Test.YtkacndinjomifaaOs
import Derived.Test.YtkacndinjomifaaOx
namespace Go.Proofs.Ytkacndinjomifaa.Prefix
open Go.ChangeShapes Go.WideShapes Go.ChangeAt Go.RowKit Go.Proofs Go.Proofs.Ytkacndinjomifaa.Byt Go.Proofs.Ytkacndinjomifaa.Obj Go.Proofs.Ytkacndinjomifaa.Frame

theorem goodL_take : ∀ (xs seen : List Sy) (k : Nat), goodL seen xs = true → goodL seen (xs.take k) = true
  | [], _, _, _ => by simp [goodL]
  | x :: xs, seen, 0, _ => by simp [goodL]
  | x :: xs, seen, k + 1, h => by
    unfold goodL at h
    rw [Bool.and_eq_true] at h
    rw [List.take_succ_cons]
    unfold goodL
    rw [Bool.and_eq_true]
    exact ⟨h.1, goodL_take xs _ k h.2⟩
theorem validO_take {xs : List Sy} (k : Nat) (h : validO xs = true) : validO (xs.take k) = true := by
  unfold validO at h ⊢
  rw [Bool.and_eq_true, decide_eq_true_eq] at h ⊢
  exact ⟨by rw [List.length_take]; omega, goodL_take xs [] k h.2⟩
theorem goodL_append : ∀ (a seen b : List Sy), goodL seen (a ++ b) = (goodL seen a && goodL (seen ++ a) b)
  | [], seen, b => by simp [goodL]
  | x :: a, seen, b => by
    rw [List.cons_append, goodL, goodL, goodL_append a (seen ++ [x]) b, List.append_assoc, List.singleton_append, ← Bool.and_assoc]
theorem has_mem {xs : List Sy} {x : Sy} (h : x ∈ xs) : has xs x.name = true := by
  unfold has
  rw [List.any_eq_true]
  exact ⟨x, h, by simp⟩
theorem valid_twice {xs : List Sy} {x : Sy} (h : x ∈ xs) : validO (xs ++ [x]) = false := by
  have hg : goodL [] (xs ++ [x]) = false := by
    rw [goodL_append, List.nil_append]
    have : goodL xs [x] = false := by
      unfold goodL
      rw [has_mem h]
      rfl
    rw [this, Bool.and_false]
  unfold validO
  rw [hg, Bool.and_false]
theorem goodL_not : ∀ (xs seen : List Sy), goodL seen xs = true → ∀ y ∈ xs, has seen y.name = false
  | [], _, _, y, hy => by simp at hy
  | x :: xs, seen, h, y, hy => by
    unfold goodL at h
    rw [Bool.and_eq_true, Bool.and_eq_true] at h
    rcases List.mem_cons.1 hy with rfl | hy
    · simpa using h.1.1
    · have := goodL_not xs _ h.2 y hy
      rw [has_append, Bool.or_eq_false_iff] at this
      exact this.1
theorem find_at : ∀ (xs seen : List Sy) (k : Nat) (hk : k < xs.length), goodL seen xs = true → findS xs xs[k].name = xs[k] ∧ has xs xs[k].name = true
  | [], _, _, hk, _ => absurd hk (by simp)
  | x :: xs, seen, 0, _, _ => ⟨by simp [findS], has_mem (by simp)⟩
  | x :: xs, seen, k + 1, hk, h => by
    have hk' : k < xs.length := by simpa using hk
    refine ⟨?_, has_mem (List.getElem_mem _)⟩
    unfold goodL at h
    rw [Bool.and_eq_true] at h
    have hn := goodL_not xs _ h.2 xs[k] (List.getElem_mem _)
    rw [has_append, Bool.or_eq_false_iff] at hn
    have hne : ¬ x.name = xs[k].name := by simpa [has] using hn.2
    rw [List.getElem_cons_succ]
    unfold findS
    rw [if_neg hne]
    exact (find_at xs _ k hk' h.2).1

/-- A slice of symbols that is cut off. -/
theorem syms_upto (a : Addr) (m d j : Nat) (hj : j ≤ m) (hd : m ≤ d) (W : World) :
    (Instr.slice 22 (.slice (some a) m d) none (some (.int .i64 (j : Int))) none).run Try.prog W = .ok (.slice (some a) j d) W := by
  have h1 : (j : Int) ≤ (d : Int) := by omega
  go_simp

/-- What the regions read. -/
structure Rs (w : World) (b o n c k : Nat) (B : Option Addr) (m d : Nat) (x0 : ByteArray) (x1 x2 x3 : Int) (W : World) : Prop where
  o0 : W.cell? ⟨w.heap.size, 0, none⟩ = some (.slice (some ⟨b, o, none⟩) n c)
  o1 : W.cell? ⟨w.heap.size, 1, none⟩ = some (.slice B m d)
  s0 : W.cell? ⟨b, o + k * 4, none⟩ = some (.string x0)
  s1 : W.cell? ⟨b, o + k * 4 + 1, none⟩ = some (.int .i64 x1)
  s2 : W.cell? ⟨b, o + k * 4 + 2, none⟩ = some (.int .i64 x2)
  s3 : W.cell? ⟨b, o + k * 4 + 3, none⟩ = some (.int .i64 x3)
structure Fi (g6 g7 g8 : Nat) (A : Addr) (k c : Nat) (B : Option Addr) (m d : Nat) (A7 : Option Addr) (n7 c7 : Nat) (x0 : ByteArray) (x1 x2 x3 : Int) (W : World) : Prop where
  p0 : W.cell? ⟨g6, 0, none⟩ = some (.slice (some A) k c)
  p1 : W.cell? ⟨g6, 1, none⟩ = some (.slice B m d)
  t0 : W.cell? ⟨g7, 0, none⟩ = some (.slice A7 n7 c7)
  t1 : W.cell? ⟨g7, 1, none⟩ = some (.slice none 0 0)
  f0 : W.cell? ⟨g8, 0, none⟩ = some (.string x0)
  f1 : W.cell? ⟨g8, 1, none⟩ = some (.int .i64 x1)
  f2 : W.cell? ⟨g8, 2, none⟩ = some (.int .i64 x2)
  f3 : W.cell? ⟨g8, 3, none⟩ = some (.int .i64 x3)

set_option linter.unusedSimpArgs false in
set_option maxRecDepth 100000 in
set_option maxHeartbeats 8000000 in
theorem walk (w : World) (A : Option Addr) (n c : Nat) (B : Option Addr) (m d : Nat) (xs : List Sy) (body : List UInt8) (h : RdS w w.heap.size A n xs) (hB : Byt.Rd w w.heap.size B m body) (hnc : n ≤ c) (_hc : c ≤ maxLen) (_hmd : m ≤ d) (_hd : d ≤ maxLen) (q : Nat) (hq : q < 256) :
    Calls Try.prog 6 #[.agg #[.slice A n c, .slice B m d], .int .u8 (q : Int)] w fun e w' => e = .returned (.bool true) ∧ Below w.heap.size w w' := by
  have i0 := In.start w A n c B m d
  go_enter Try.func6, Try.ntmps6
  go_wp2_with fail
  refine (awake_any _).mono ?_
  rintro e w1 ⟨rfl, hb1⟩
  have i1 := i0.on hb1
  have q0 := i1.c0
  have q1 := i1.c1
  clear hb1 i0
  go_wp2_with fail
  refine (rfew_any w.heap.size A B n c m d xs w1 (h.below i1.b) i1.b.size).mono ?_
  rintro e w2 ⟨rfl, hb2⟩
  have i2 := i1.on hb2
  clear q0 q1 hb2 i1
  cases hf : fewO xs m
  · go_wp2_with fail
    refine (awake_any _).mono ?_
    rintro e w9 ⟨rfl, hb9⟩
    go_wp2_with fail
    go_ret
    exact ⟨rfl, (i2.on hb9).b⟩
  · obtain ⟨k1, k2, k3⟩ := fewO_iff.1 hf
    have hl := hid h.1
    have hlB := hid hB.1
    have hn60 : n ≤ 60 := by have := hl.out; omega
    clear hf
    have q0 := i2.c0
    have q1 := i2.c1
    go_wp2_with fail
    refine (rvalid_any w.heap.size A B n c m d xs w2 (h.below i2.b) i2.b.size (by omega) hnc).mono ?_
    rintro e w3 ⟨rfl, hb3⟩
    have i3 := i2.on hb3
    clear q0 q1 hb3 i2
    have q0 := i3.c0
    have q1 := i3.c1
    cases hv : validO xs
    · go_wp2_with fail
      refine (awake_any _).mono ?_
      rintro e w9 ⟨rfl, hb9⟩
      go_wp2_with fail
      go_ret
      exact ⟨rfl, (i3.on hb9).b⟩
    · by_cases hn0 : n = 0
      · subst hn0
        go_wp2_with fail
        refine (awake_any _).mono ?_
        rintro e w9 ⟨rfl, hb9⟩
        go_wp2_with fail
        go_ret
        exact ⟨rfl, (i3.on hb9).b⟩
      · obtain ⟨k, hk⟩ : ∃ k, q % n = k := ⟨_, rfl⟩
        have hkn : k < n := by have := Nat.mod_lt q (show 0 < n by omega); omega
        have hkl : k < xs.length := by have := hl.out; omega
        have hni : ((n : Int) == 0) = false := by simp; omega
        have hne : ¬ (n : Int) = 0 := by omega
        have hw2 : IntKind.i64.wrap (q : Int) = (q : Int) := by rw [IntKind.wrap_i64]; omega
        have hw3 : IntKind.i64.wrap (k : Int) = (k : Int) := by rw [IntKind.wrap_i64]; omega
        have hmod : ((q : Int)).tmod (n : Int) = (k : Int) := by rw [← hk]; exact (Int.ofNat_tmod q n).symm
        obtain ⟨⟨b, o, rfl, hbK, hcell⟩, hsz⟩ := h.2 k hkl
        have Hfind := hid (find_at xs [] k hkl (by unfold validO at hv; rw [Bool.and_eq_true] at hv; exact hv.2))
        have Htw := hid (valid_twice (List.getElem_mem hkl))
        have Htk := hid (validO_take k hv)
        have hx1 : ∀ y ∈ [xs[k]], y.name.size ≤ maxLen := fun y hy => by rw [List.mem_singleton] at hy; subst hy; exact hsz
        clear hk hsz
        generalize xs[k] = x at *
        obtain ⟨x0, x1, x2, x3⟩ := x
        simp only at Hfind
        go_upto_region 4 with fail
        clear hw2 hmod hni hne q0 q1
        have hR3 : Hid (∀ W, Below w3.heap.size w3 W → Rs w b o n c k B m d x0 x1 x2 x3 W) := hid fun W hW => by
          have i := i3.on hW
          obtain ⟨y0, y1, y2, y3⟩ := hcell.below i.b hbK
          exact ⟨i.c0, i.c1, y0, y1, y2, y3⟩
        have hup := fun W => syms_upto ⟨b, o, none⟩ n c k (Nat.le_of_lt hkn) hnc W
        refine Ord.Till.begin (fun W => Rs w b o n c k B m d x0 x1 x2 x3 W) 60 (by kernel_rfl) ?_
        have hb : Below w3.heap.size w3 w3.drew := (Below.refl _ _).drew
        refine Ord.Till.take' 0 (some 35) (oi := _) (x := ?_) rfl rfl (by kernel_rfl) (by kernel_rfl) (by kernel_rfl) (by kernel_rfl) (fun _ _ _ h => h) (by kernel_rfl) ?_ (hR3.out _ hb) ?_
        rotate_left 1
        · intro v hv; obtain ⟨z0, z1, z2, z3, z4, z5⟩ := hv; go_simp; first | done | with_reducible rfl
        try simp only [Act.put, List.setIfInBounds_toArray, List.set_cons_zero, List.set_cons_succ]
        refine Ord.Till.take' 1 (some 36) (oi := _) (x := ?_) rfl rfl (by kernel_rfl) (by kernel_rfl) (by kernel_rfl) (by kernel_rfl) (fun _ _ _ h => h) (by kernel_rfl) ?_ (hR3.out _ hb) ?_
        rotate_left 1
        · intro v hv; obtain ⟨z0, z1, z2, z3, z4, z5⟩ := hv; go_simp; first | done | with_reducible rfl
        try simp only [Act.put, List.setIfInBounds_toArray, List.set_cons_zero, List.set_cons_succ]
        refine Ord.Till.take' 2 (some 37) (oi := _) (x := ?_) rfl rfl (by kernel_rfl) (by kernel_rfl) (by kernel_rfl) (by kernel_rfl) (fun _ _ _ h => h) (by kernel_rfl) ?_ (hR3.out _ hb) ?_
        rotate_left 1
        · intro v hv; obtain ⟨z0, z1, z2, z3, z4, z5⟩ := hv; go_simp; first | done | with_reducible rfl
        try simp only [Act.put, List.setIfInBounds_toArray, List.set_cons_zero, List.set_cons_succ]
        refine Ord.Till.take' 3 (some 38) (oi := _) (x := ?_) rfl rfl (by kernel_rfl) (by kernel_rfl) (by kernel_rfl) (by kernel_rfl) (fun _ _ _ h => h) (by kernel_rfl) ?_ (hR3.out _ hb) ?_
        rotate_left 1
        · intro v hv; obtain ⟨z0, z1, z2, z3, z4, z5⟩ := hv; go_simp; first | done | with_reducible rfl
        try simp only [Act.put, List.setIfInBounds_toArray, List.set_cons_zero, List.set_cons_succ]
        refine Ord.Till.take' 4 (some 39) (oi := _) (x := ?_) rfl rfl (by kernel_rfl) (by kernel_rfl) (by kernel_rfl) (by kernel_rfl) (fun _ _ _ h => h) (by kernel_rfl) ?_ (hR3.out _ hb) ?_
        rotate_left 1
        · intro v hv; obtain ⟨z0, z1, z2, z3, z4, z5⟩ := hv; go_simp; first | done | with_reducible rfl
        try simp only [Act.put, List.setIfInBounds_toArray, List.set_cons_zero, List.set_cons_succ]
        refine Ord.Till.take' 5 (some 40) (oi := _) (x := ?_) rfl rfl (by kernel_rfl) (by kernel_rfl) (by kernel_rfl) (by kernel_rfl) (fun _ _ _ h => h) (by kernel_rfl) ?_ (hR3.out _ hb) ?_
        rotate_left 1
        · intro v hv; obtain ⟨z0, z1, z2, z3, z4, z5⟩ := hv; go_simp; first | done | with_reducible rfl
        try simp only [Act.put, List.setIfInBounds_toArray, List.set_cons_zero, List.set_cons_succ]
        refine Ord.Till.take' 6 (some 41) (oi := _) (x := ?_) rfl rfl (by kernel_rfl) (by kernel_rfl) (by kernel_rfl) (by kernel_rfl) (fun _ _ _ h => h) (by kernel_rfl) ?_ (hR3.out _ hb) ?_
        rotate_left 1
        · intro v hv; obtain ⟨z0, z1, z2, z3, z4, z5⟩ := hv; go_simp; first | done | with_reducible rfl
        try simp only [Act.put, List.setIfInBounds_toArray, List.set_cons_zero, List.set_cons_succ]
        refine Ord.Till.step 7 (by kernel_rfl) rfl (fun C hC => ?_)
        go_simp
        have hb' : Below w3.heap.size w3 (w3.alloc (.cells #[.slice none 0 0, .slice none 0 0] 25)).drew := ((Below.refl _ w3).alloc (Nat.le_refl _) _).drew
        have row : (w3.alloc (.cells #[.slice none 0 0, .slice none 0 0] 25)).drew.heap[w3.heap.size]? = some (.cells #[.slice none 0 0, .slice none 0 0] 25 (0, 0)) := heap_alloc_new w3 _
        refine hC.out _ _ (fun _ => hR3.out _ hb') ?_
        clear hC C
        try simp only [List.getElem_toArray, List.getElem_cons_zero, List.getElem_cons_succ, Act.put, List.setIfInBounds_toArray, List.set_cons_zero, List.set_cons_succ]
        generalize (w3.alloc (.cells #[.slice none 0 0, .slice none 0 0] 25)).drew = w4 at *
        have hR6 : w3.heap.size ≤ w3.heap.size := Nat.le_refl _
        have hw34 := hb'.size
        have k0 := cell_of_row _ _ 0 _ _ _ row
        have k1' := cell_of_row _ _ 1 _ _ _ row
        have kf := fun o => frozen_of_row _ _ o _ _ row
        have hrow6 := put2_row row (.slice (some ⟨b, o, none⟩) k c) (.slice B m d)
        have hbz := put2_below hb' hR6 (.slice (some ⟨b, o, none⟩) k c) (.slice B m d)
        unfold put2 at hrow6 hbz
        refine Ord.Till.step 8 (by kernel_rfl) rfl (fun C hC => ?_)
        go_simp
        refine hC.out _ _ (fun _ => hR3.out _ hbz) ?_
        clear hC C
        try simp only [List.getElem_toArray, List.getElem_cons_zero, List.getElem_cons_succ, Act.put, List.setIfInBounds_toArray, List.set_cons_zero, List.set_cons_succ]
        refine Ord.Till.done (by kernel_rfl) ?_ _
        have iV := i3.on hbz
        clear k0 k1' kf hup hb hb' row hw34 hR6
        obtain ⟨g6, hg6⟩ : ∃ g6, w3.heap.size = g6 := ⟨_, rfl⟩
        rw [hg6] at hrow6 iV
        have hg6w : w.heap.size < g6 := by have := i3.lt; omega
        clear hR3 hbz i3
        go_upto_region 5 with fail
        try rw [hg6]
        clear hg6
        generalize (w4.setCell ⟨g6, 0, none⟩ (.slice (some ⟨b, o, none⟩) k c)).setCell ⟨g6, 1, none⟩ (.slice B m d) = V at *
        have hSall : Hid (∀ W, Below V.heap.size V W → Rs w b o n c k B m d x0 x1 x2 x3 W) := hid fun W hW => by
          have i := iV.on hW
          obtain ⟨y0, y1, y2, y3⟩ := hcell.below i.b hbK
          exact ⟨i.c0, i.c1, y0, y1, y2, y3⟩
        have hg6V := (Array.getElem?_eq_some_iff.1 hrow6).1
        go_cut [7] from 42 to 53 (fun s7 wx => ∃ g A7 c7, s7 = .pointer (some ⟨g, 0, none⟩) ∧ wx.heap[g]? = some (.cells #[.slice A7 (n + 1) c7, .slice none 0 0] 25 (0, 0)) ∧ V.heap.size ≤ g ∧ Cel.Own 38 4 wx V.heap.size (.slice A7 (n + 1) c7) (n + 1) (scells (xs ++ [⟨x0, x1, x2, x3⟩])) ∧ Below V.heap.size V wx)
        case first =>
          refine Ord.Till.begin (fun W => Rs w b o n c k B m d x0 x1 x2 x3 W) 60 (by kernel_rfl) ?_
          have hb : Below V.heap.size V V.drew := (Below.refl _ _).drew
          generalize V.drew = y0 at *
          refine Ord.Till.take' 1 (some 43) (oi := _) (x := ?_) rfl rfl (by kernel_rfl) (by kernel_rfl) (by kernel_rfl) (by kernel_rfl) (fun _ _ _ h => h) (by kernel_rfl) ?_ (hSall.out _ hb) ?_
          rotate_left 1
          · intro v hv; obtain ⟨z0, z1, z2, z3, z4, z5⟩ := hv; go_simp; first | done | with_reducible rfl
          try simp only [Act.put, List.setIfInBounds_toArray, List.set_cons_zero, List.set_cons_succ]
          refine Ord.Till.take' 2 (some 44) (oi := _) (x := ?_) rfl rfl (by kernel_rfl) (by kernel_rfl) (by kernel_rfl) (by kernel_rfl) (fun _ _ _ h => h) (by kernel_rfl) ?_ (hSall.out _ hb) ?_
          rotate_left 1
          · intro v hv; obtain ⟨z0, z1, z2, z3, z4, z5⟩ := hv; go_simp; first | done | with_reducible rfl
          try simp only [Act.put, List.setIfInBounds_toArray, List.set_cons_zero, List.set_cons_succ]
          refine Ord.Till.take' 4 (some 46) (oi := _) (x := ?_) rfl rfl (by kernel_rfl) (by kernel_rfl) (by kernel_rfl) (by kernel_rfl) (fun _ _ _ h => h) (by kernel_rfl) ?_ (hSall.out _ hb) ?_
          rotate_left 1
          · intro v hv; obtain ⟨z0, z1, z2, z3, z4, z5⟩ := hv; go_simp; first | done | with_reducible rfl
          try simp only [Act.put, List.setIfInBounds_toArray, List.set_cons_zero, List.set_cons_succ]
          refine Ord.Till.take' 5 (some 47) (oi := _) (x := ?_) rfl rfl (by kernel_rfl) (by kernel_rfl) (by kernel_rfl) (by kernel_rfl) (fun _ _ _ h => h) (by kernel_rfl) ?_ (hSall.out _ hb) ?_
          rotate_left 1
          · intro v hv; obtain ⟨z0, z1, z2, z3, z4, z5⟩ := hv; go_simp; first | done | with_reducible rfl
          try simp only [Act.put, List.setIfInBounds_toArray, List.set_cons_zero, List.set_cons_succ]
          refine Ord.Till.take' 6 (some 48) (oi := _) (x := ?_) rfl rfl (by kernel_rfl) (by kernel_rfl) (by kernel_rfl) (by kernel_rfl) (fun _ _ _ h => h) (by kernel_rfl) ?_ (hSall.out _ hb) ?_
          rotate_left 1
          · intro v hv; obtain ⟨z0, z1, z2, z3, z4, z5⟩ := hv; go_simp; first | done | with_reducible rfl
          try simp only [Act.put, List.setIfInBounds_toArray, List.set_cons_zero, List.set_cons_succ]
          refine Ord.Till.take' 7 (some 49) (oi := _) (x := ?_) rfl rfl (by kernel_rfl) (by kernel_rfl) (by kernel_rfl) (by kernel_rfl) (fun _ _ _ h => h) (by kernel_rfl) ?_ (hSall.out _ hb) ?_
          rotate_left 1
          · intro v hv; obtain ⟨z0, z1, z2, z3, z4, z5⟩ := hv; go_simp; first | done | with_reducible rfl
          try simp only [Act.put, List.setIfInBounds_toArray, List.set_cons_zero, List.set_cons_succ]
          refine Ord.Till.take' 8 (some 50) (oi := _) (x := ?_) rfl rfl (by kernel_rfl) (by kernel_rfl) (by kernel_rfl) (by kernel_rfl) (fun _ _ _ h => h) (by kernel_rfl) ?_ (hSall.out _ hb) ?_
          rotate_left 1
          · intro v hv; obtain ⟨z0, z1, z2, z3, z4, z5⟩ := hv; go_simp; first | done | with_reducible rfl
          try simp only [Act.put, List.setIfInBounds_toArray, List.set_cons_zero, List.set_cons_succ]
          refine Ord.Till.three 0 9 12 (by kernel_rfl) rfl rfl rfl (fun C hC => ?_) (fun C hC => ?_) (fun C hC => ?_)
          · go_simp
            have hb' := hb.alloc hb.size (.cells #[] 38)
            have o_S := syms_lit0 y0 V.heap.size hb.size
            refine hC.out _ _ (fun _ => hSall.out _ hb') ?_
            clear hC C
            try simp only [List.getElem_toArray, List.getElem_cons_zero, List.getElem_cons_succ, Act.put, List.setIfInBounds_toArray, List.set_cons_zero, List.set_cons_succ]
            clear hb
            have hb := hb'
            clear hb'
            generalize y0.alloc (.cells #[] 38) = y1 at *
            generalize y0.heap.size = g1 at *
            refine Ord.Till.three 3 9 12 (by kernel_rfl) rfl rfl rfl (fun C hC => ?_) (fun C hC => ?_) (fun C hC => ?_)
            · refine step_syms y1 V.heap.size _ 0 [] o_S hb.size (some ⟨b, o, none⟩) n c w.heap.size xs (h.below (iV.on hb).b) (by omega) (by rfl) _ _ (by rfl) (by rfl) (by rfl) ?_
              intro v2 y2 o_S' hb' ho' hf'
              rw [Nat.zero_add, List.nil_append] at o_S'
              obtain ⟨AS, cS, rfl, _⟩ := o_S'.reads
              clear o_S
              have o_S := o_S'
              replace hb := hb.trans hb'
              clear hb' ho' hf' o_S'
              refine hC.out _ _ (fun _ => hSall.out _ hb) ?_
              clear hC C
              try simp only [List.getElem_toArray, List.getElem_cons_zero, List.getElem_cons_succ, Act.put, List.setIfInBounds_toArray, List.set_cons_zero, List.set_cons_succ]
              refine Ord.Till.two 9 12 (by kernel_rfl) rfl rfl (fun C hC => ?_) (fun C hC => ?_)
              · go_simp
                have hb' := hb.alloc hb.size (.cells #[.string x0, .int .i64 x1, .int .i64 x2, .int .i64 x3] 38)
                have hap : Sls.Apart (.slice (some ⟨y2.heap.size, 0, none⟩) 1 1) _ := fun j hj e => by
                  have h1 := o_S.blk_lt e
                  injection hj with hj
                  have e2 : y2.heap.size = j := hj
                  omega
                replace o_S := o_S.alloc (.cells #[.string x0, .int .i64 x1, .int .i64 x2, .int .i64 x3] 38)
                have o_T := syms_lit1 y2 V.heap.size x0 x1 x2 x3 hb.size
                refine hC.out _ _ (fun _ => hSall.out _ hb') ?_
                clear hC C
                try simp only [List.getElem_toArray, List.getElem_cons_zero, List.getElem_cons_succ, Act.put, List.setIfInBounds_toArray, List.set_cons_zero, List.set_cons_succ]
                clear hb
                have hb := hb'
                clear hb'
                generalize y2.alloc (.cells #[.string x0, .int .i64 x1, .int .i64 x2, .int .i64 x3] 38) = y3 at *
                generalize y2.heap.size = g3 at *
                refine Ord.Till.two 10 12 (by kernel_rfl) rfl rfl (fun C hC => ?_) (fun C hC => ?_)
                · obtain ⟨_, _, eT, hrT, _⟩ := o_T.reads
                  injection eT with eT1 _ eT3
                  subst eT1 eT3
                  refine step_syms y3 V.heap.size _ n (scells xs) o_S hb.size _ 1 1 y3.heap.size [⟨x0, x1, x2, x3⟩] (rds_of hrT hx1) (by omega) (by rfl) _ _ (by rfl) (by rfl) (by rfl) ?_
                  intro v4 y4 o_S' hb' ho' hf'
                  rw [← scells_append] at o_S'
                  obtain ⟨AS', cS', rfl, _⟩ := o_S'.reads
                  clear o_S hrT
                  have o_S := o_S'
                  replace hb := hb.trans hb'
                  clear hb' ho' hf' o_S' o_T hap
                  refine hC.out _ _ (fun _ => hSall.out _ hb) ?_
                  clear hC C
                  try simp only [List.getElem_toArray, List.getElem_cons_zero, List.getElem_cons_succ, Act.put, List.setIfInBounds_toArray, List.set_cons_zero, List.set_cons_succ]
                  refine Ord.Till.take' 11 (some 53) (oi := _) (x := ?_) rfl rfl (by kernel_rfl) (by kernel_rfl) (by kernel_rfl) (by kernel_rfl) (fun _ _ _ h => h) (by kernel_rfl) ?_ (hSall.out _ hb) ?_
                  rotate_left 1
                  · intro v hv; obtain ⟨z0, z1, z2, z3, z4, z5⟩ := hv; go_simp; first | done | with_reducible rfl
                  try simp only [Act.put, List.setIfInBounds_toArray, List.set_cons_zero, List.set_cons_succ]
                  refine Ord.Till.step 12 (by kernel_rfl) rfl (fun C hC => ?_)
                  go_simp
                  have hb' := hb.alloc hb.size (.cells #[.slice none 0 0, .slice none 0 0] 25)
                  replace o_S := o_S.alloc (.cells #[.slice none 0 0, .slice none 0 0] 25)
                  have row := heap_alloc_new y4 (.cells #[.slice none 0 0, .slice none 0 0] 25)
                  have hR := hb.size
                  refine hC.out _ _ (fun _ => hSall.out _ hb') ?_
                  clear hC C
                  try simp only [List.getElem_toArray, List.getElem_cons_zero, List.getElem_cons_succ, Act.put, List.setIfInBounds_toArray, List.set_cons_zero, List.set_cons_succ]
                  clear hb
                  have hb := hb'
                  clear hb'
                  generalize y4.alloc (.cells #[.slice none 0 0, .slice none 0 0] 25) = y5 at *
                  generalize y4.heap.size = g5 at *
                  have k0 := cell_of_row _ _ 0 _ _ _ row
                  have k1 := cell_of_row _ _ 1 _ _ _ row
                  have kf := fun o => frozen_of_row _ _ o _ _ row
                  have row1 := heap_setCell_same _ _ 0 _ _ (.slice AS' (n + 1) cS') row
                  have hrz := put2_row row (.slice AS' (n + 1) cS') (.slice none 0 0)
                  have hbz := put2_below hb hR (.slice AS' (n + 1) cS') (.slice none 0 0)
                  have oSz := (o_S.setc row (by decide) 0 (.slice AS' (n + 1) cS')).setc row1 (by decide) 1 (.slice none 0 0)
                  unfold put2 at hrz hbz
                  refine Ord.Till.step 13 (by kernel_rfl) rfl (fun C hC => ?_)
                  go_simp
                  refine hC.out _ _ (fun _ => hSall.out _ hbz) ?_
                  clear hC C
                  try simp only [List.getElem_toArray, List.getElem_cons_zero, List.getElem_cons_succ, Act.put, List.setIfInBounds_toArray, List.set_cons_zero, List.set_cons_succ]
                  refine Ord.Till.done (by kernel_rfl) ?_ _
                  clear k0 k1 kf
                  go_wp2_with fail
                  go_meet
                  exact ⟨_, AS', cS', rfl, hrz, hR, oSz, hbz⟩
                · go_simp
                  have hb' := hb.alloc hb.size (.cells #[.slice none 0 0, .slice none 0 0] 25)
                  replace o_S := o_S.alloc (.cells #[.slice none 0 0, .slice none 0 0] 25)
                  replace o_T := o_T.alloc (.cells #[.slice none 0 0, .slice none 0 0] 25)
                  have row := heap_alloc_new y3 (.cells #[.slice none 0 0, .slice none 0 0] 25)
                  have hR := hb.size
                  refine hC.out _ _ (fun _ => hSall.out _ hb') ?_
                  clear hC C
                  try simp only [List.getElem_toArray, List.getElem_cons_zero, List.getElem_cons_succ, Act.put, List.setIfInBounds_toArray, List.set_cons_zero, List.set_cons_succ]
                  clear hb
                  have hb := hb'
                  clear hb'
                  generalize y3.alloc (.cells #[.slice none 0 0, .slice none 0 0] 25) = y6 at *
                  generalize y3.heap.size = g6 at *
                  refine Ord.Till.step 10 (by kernel_rfl) rfl (fun C hC => ?_)
                  obtain ⟨_, _, eT, hrT, _⟩ := o_T.reads
                  injection eT with eT1 _ eT3
                  subst eT1 eT3
                  refine step_syms y6 V.heap.size _ n (scells xs) o_S hb.size _ 1 1 y6.heap.size [⟨x0, x1, x2, x3⟩] (rds_of hrT hx1) (by omega) (by rfl) _ _ (by rfl) (by rfl) (by rfl) ?_
                  intro v7 y7 o_S' hb' ho' hf'
                  rw [← scells_append] at o_S'
                  obtain ⟨AS', cS', rfl, _⟩ := o_S'.reads
                  clear o_S hrT
                  have o_S := o_S'
                  replace row := ho' _ _ row (fun _ _ e => by simp at e)
                  replace hb := hb.trans hb'
                  clear hb' ho' hf' o_S' o_T hap
                  refine hC.out _ _ (fun _ => hSall.out _ hb) ?_
                  clear hC C
                  try simp only [List.getElem_toArray, List.getElem_cons_zero, List.getElem_cons_succ, Act.put, List.setIfInBounds_toArray, List.set_cons_zero, List.set_cons_succ]
                  refine Ord.Till.take' 11 (some 53) (oi := _) (x := ?_) rfl rfl (by kernel_rfl) (by kernel_rfl) (by kernel_rfl) (by kernel_rfl) (fun _ _ _ h => h) (by kernel_rfl) ?_ (hSall.out _ hb) ?_
                  rotate_left 1
                  · intro v hv; obtain ⟨z0, z1, z2, z3, z4, z5⟩ := hv; go_simp; first | done | with_reducible rfl
                  try simp only [Act.put, List.setIfInBounds_toArray, List.set_cons_zero, List.set_cons_succ]
                  have k0 := cell_of_row _ _ 0 _ _ _ row
                  have k1 := cell_of_row _ _ 1 _ _ _ row
                  have kf := fun o => frozen_of_row _ _ o _ _ row
                  have row1 := heap_setCell_same _ _ 0 _ _ (.slice AS' (n + 1) cS') row
                  have hrz := put2_row row (.slice AS' (n + 1) cS') (.slice none 0 0)
                  have hbz := put2_below hb hR (.slice AS' (n + 1) cS') (.slice none 0 0)
                  have oSz := (o_S.setc row (by decide) 0 (.slice AS' (n + 1) cS')).setc row1 (by decide) 1 (.slice none 0 0)
                  unfold put2 at hrz hbz
                  refine Ord.Till.step 13 (by kernel_rfl) rfl (fun C hC => ?_)
                  go_simp
                  refine hC.out _ _ (fun _ => hSall.out _ hbz) ?_
                  clear hC C
                  try simp only [List.getElem_toArray, List.getElem_cons_zero, List.getElem_cons_succ, Act.put, List.setIfInBounds_toArray, List.set_cons_zero, List.set_cons_succ]
                  refine Ord.Till.done (by kernel_rfl) ?_ _
                  clear k0 k1 kf
                  go_wp2_with fail
                  go_meet
                  exact ⟨_, AS', cS', rfl, hrz, hR, oSz, hbz⟩
              · go_simp
                have hb' := hb.alloc hb.size (.cells #[.slice none 0 0, .slice none 0 0] 25)
                replace o_S := o_S.alloc (.cells #[.slice none 0 0, .slice none 0 0] 25)
                have row := heap_alloc_new y2 (.cells #[.slice none 0 0, .slice none 0 0] 25)
                have hR := hb.size
                refine hC.out _ _ (fun _ => hSall.out _ hb') ?_
                clear hC C
                try simp only [List.getElem_toArray, List.getElem_cons_zero, List.getElem_cons_succ, Act.put, List.setIfInBounds_toArray, List.set_cons_zero, List.set_cons_succ]
                clear hb
                have hb := hb'
                clear hb'
                generalize y2.alloc (.cells #[.slice none 0 0, .slice none 0 0] 25) = y8 at *
                generalize y2.heap.size = g8 at *
                refine Ord.Till.step 9 (by kernel_rfl) rfl (fun C hC => ?_)
                go_simp
                have hb' := hb.alloc hb.size (.cells #[.string x0, .int .i64 x1, .int .i64 x2, .int .i64 x3] 38)
                have hap : Sls.Apart (.slice (some ⟨y8.heap.size, 0, none⟩) 1 1) _ := fun j hj e => by
                  have h1 := o_S.blk_lt e
                  injection hj with hj
                  have e2 : y8.heap.size = j := hj
                  omega
                replace o_S := o_S.alloc (.cells #[.string x0, .int .i64 x1, .int .i64 x2, .int .i64 x3] 38)
                replace row := (Below.heap_alloc y8 (.cells #[.string x0, .int .i64 x1, .int .i64 x2, .int .i64 x3] 38) _ (Array.getElem?_eq_some_iff.1 row).1).trans row
                have o_T := syms_lit1 y8 V.heap.size x0 x1 x2 x3 hb.size
                refine hC.out _ _ (fun _ => hSall.out _ hb') ?_
                clear hC C
                try simp only [List.getElem_toArray, List.getElem_cons_zero, List.getElem_cons_succ, Act.put, List.setIfInBounds_toArray, List.set_cons_zero, List.set_cons_succ]
                clear hb
                have hb := hb'
                clear hb'
                generalize y8.alloc (.cells #[.string x0, .int .i64 x1, .int .i64 x2, .int .i64 x3] 38) = y9 at *
                generalize y8.heap.size = g9 at *
                refine Ord.Till.step 10 (by kernel_rfl) rfl (fun C hC => ?_)
                obtain ⟨_, _, eT, hrT, _⟩ := o_T.reads
                injection eT with eT1 _ eT3
                subst eT1 eT3
                refine step_syms y9 V.heap.size _ n (scells xs) o_S hb.size _ 1 1 y9.heap.size [⟨x0, x1, x2, x3⟩] (rds_of hrT hx1) (by omega) (by rfl) _ _ (by rfl) (by rfl) (by rfl) ?_
                intro v10 y10 o_S' hb' ho' hf'
                rw [← scells_append] at o_S'
                obtain ⟨AS', cS', rfl, _⟩ := o_S'.reads
                clear o_S hrT
                have o_S := o_S'
                replace row := ho' _ _ row (fun _ _ e => by simp at e)
                replace hb := hb.trans hb'
                clear hb' ho' hf' o_S' o_T hap
                refine hC.out _ _ (fun _ => hSall.out _ hb) ?_
                clear hC C
                try simp only [List.getElem_toArray, List.getElem_cons_zero, List.getElem_cons_succ, Act.put, List.setIfInBounds_toArray, List.set_cons_zero, List.set_cons_succ]
                refine Ord.Till.take' 11 (some 53) (oi := _) (x := ?_) rfl rfl (by kernel_rfl) (by kernel_rfl) (by kernel_rfl) (by kernel_rfl) (fun _ _ _ h => h) (by kernel_rfl) ?_ (hSall.out _ hb) ?_
                rotate_left 1
                · intro v hv; obtain ⟨z0, z1, z2, z3, z4, z5⟩ := hv; go_simp; first | done | with_reducible rfl
                try simp only [Act.put, List.setIfInBounds_toArray, List.set_cons_zero, List.set_cons_succ]
                have k0 := cell_of_row _ _ 0 _ _ _ row
                have k1 := cell_of_row _ _ 1 _ _ _ row
                have kf := fun o => frozen_of_row _ _ o _ _ row
                have row1 := heap_setCell_same _ _ 0 _ _ (.slice AS' (n + 1) cS') row
                have hrz := put2_row row (.slice AS' (n + 1) cS') (.slice none 0 0)
                have hbz := put2_below hb hR (.slice AS' (n + 1) cS') (.slice none 0 0)
                have oSz := (o_S.setc row (by decide) 0 (.slice AS' (n + 1) cS')).setc row1 (by decide) 1 (.slice none 0 0)
                unfold put2 at hrz hbz
                refine Ord.Till.step 13 (by kernel_rfl) rfl (fun C hC => ?_)
                go_simp
                refine hC.out _ _ (fun _ => hSall.out _ hbz) ?_
                clear hC C
                try simp only [List.getElem_toArray, List.getElem_cons_zero, List.getElem_cons_succ, Act.put, List.setIfInBounds_toArray, List.set_cons_zero, List.set_cons_succ]
                refine Ord.Till.done (by kernel_rfl) ?_ _
                clear k0 k1 kf
                go_wp2_with fail
                go_meet
                exact ⟨_, AS', cS', rfl, hrz, hR, oSz, hbz⟩
            · go_simp
              have hb' := hb.alloc hb.size (.cells #[.string x0, .int .i64 x1, .int .i64 x2, .int .i64 x3] 38)
              have hap : Sls.Apart (.slice (some ⟨y1.heap.size, 0, none⟩) 1 1) _ := fun j hj e => by
                have h1 := o_S.blk_lt e
                injection hj with hj
                have e2 : y1.heap.size = j := hj
                omega
              replace o_S := o_S.alloc (.cells #[.string x0, .int .i64 x1, .int .i64 x2, .int .i64 x3] 38)
              have o_T := syms_lit1 y1 V.heap.size x0 x1 x2 x3 hb.size
              refine hC.out _ _ (fun _ => hSall.out _ hb') ?_
              clear hC C
              try simp only [List.getElem_toArray, List.getElem_cons_zero, List.getElem_cons_succ, Act.put, List.setIfInBounds_toArray, List.set_cons_zero, List.set_cons_succ]
              clear hb
              have hb := hb'
              clear hb'
              generalize y1.alloc (.cells #[.string x0, .int .i64 x1, .int .i64 x2, .int .i64 x3] 38) = y11 at *
              generalize y1.heap.size = g11 at *
              refine Ord.Till.two 3 12 (by kernel_rfl) rfl rfl (fun C hC => ?_) (fun C hC => ?_)
              · refine step_syms y11 V.heap.size _ 0 [] o_S hb.size (some ⟨b, o, none⟩) n c w.heap.size xs (h.below (iV.on hb).b) (by omega) (by rfl) _ _ (by rfl) (by rfl) (by rfl) ?_
                intro v12 y12 o_S' hb' ho' hf'
                rw [Nat.zero_add, List.nil_append] at o_S'
                obtain ⟨AS, cS, rfl, _⟩ := o_S'.reads
                have hap1 : Sls.Apart (.slice (some ⟨_, 0, none⟩) 1 1) (.slice AS n cS) := fun j hj e => by
                  rcases hf'.2 j e with h1 | h1
                  · exact hap j hj h1
                  · have h2 := o_T.blk_lt hj
                    omega
                replace o_T := o_T.fr hf' hap
                clear hap
                have hap := hap1
                clear hap1
                clear o_S
                have o_S := o_S'
                replace hb := hb.trans hb'
                clear hb' ho' hf' o_S'
                refine hC.out _ _ (fun _ => hSall.out _ hb) ?_
                clear hC C
                try simp only [List.getElem_toArray, List.getElem_cons_zero, List.getElem_cons_succ, Act.put, List.setIfInBounds_toArray, List.set_cons_zero, List.set_cons_succ]
                refine Ord.Till.two 10 12 (by kernel_rfl) rfl rfl (fun C hC => ?_) (fun C hC => ?_)
                · obtain ⟨_, _, eT, hrT, _⟩ := o_T.reads
                  injection eT with eT1 _ eT3
                  subst eT1 eT3
                  refine step_syms y12 V.heap.size _ n (scells xs) o_S hb.size _ 1 1 y12.heap.size [⟨x0, x1, x2, x3⟩] (rds_of hrT hx1) (by omega) (by rfl) _ _ (by rfl) (by rfl) (by rfl) ?_
                  intro v13 y13 o_S' hb' ho' hf'
                  rw [← scells_append] at o_S'
                  obtain ⟨AS', cS', rfl, _⟩ := o_S'.reads
                  clear o_S hrT
                  have o_S := o_S'
                  replace hb := hb.trans hb'
                  clear hb' ho' hf' o_S' o_T hap
                  refine hC.out _ _ (fun _ => hSall.out _ hb) ?_
                  clear hC C
                  try simp only [List.getElem_toArray, List.getElem_cons_zero, List.getElem_cons_succ, Act.put, List.setIfInBounds_toArray, List.set_cons_zero, List.set_cons_succ]
                  refine Ord.Till.take' 11 (some 53) (oi := _) (x := ?_) rfl rfl (by kernel_rfl) (by kernel_rfl) (by kernel_rfl) (by kernel_rfl) (fun _ _ _ h => h) (by kernel_rfl) ?_ (hSall.out _ hb) ?_
                  rotate_left 1
                  · intro v hv; obtain ⟨z0, z1, z2, z3, z4, z5⟩ := hv; go_simp; first | done | with_reducible rfl
                  try simp only [Act.put, List.setIfInBounds_toArray, List.set_cons_zero, List.set_cons_succ]
                  refine Ord.Till.step 12 (by kernel_rfl) rfl (fun C hC => ?_)
                  go_simp
                  have hb' := hb.alloc hb.size (.cells #[.slice none 0 0, .slice none 0 0] 25)
                  replace o_S := o_S.alloc (.cells #[.slice none 0 0, .slice none 0 0] 25)
                  have row := heap_alloc_new y13 (.cells #[.slice none 0 0, .slice none 0 0] 25)
                  have hR := hb.size
                  refine hC.out _ _ (fun _ => hSall.out _ hb') ?_
                  clear hC C
                  try simp only [List.getElem_toArray, List.getElem_cons_zero, List.getElem_cons_succ, Act.put, List.setIfInBounds_toArray, List.set_cons_zero, List.set_cons_succ]
                  clear hb
                  have hb := hb'
                  clear hb'
                  generalize y13.alloc (.cells #[.slice none 0 0, .slice none 0 0] 25) = y14 at *
                  generalize y13.heap.size = g14 at *
                  have k0 := cell_of_row _ _ 0 _ _ _ row
                  have k1 := cell_of_row _ _ 1 _ _ _ row
                  have kf := fun o => frozen_of_row _ _ o _ _ row
                  have row1 := heap_setCell_same _ _ 0 _ _ (.slice AS' (n + 1) cS') row
                  have hrz := put2_row row (.slice AS' (n + 1) cS') (.slice none 0 0)
                  have hbz := put2_below hb hR (.slice AS' (n + 1) cS') (.slice none 0 0)
                  have oSz := (o_S.setc row (by decide) 0 (.slice AS' (n + 1) cS')).setc row1 (by decide) 1 (.slice none 0 0)
                  unfold put2 at hrz hbz
                  refine Ord.Till.step 13 (by kernel_rfl) rfl (fun C hC => ?_)
                  go_simp
                  refine hC.out _ _ (fun _ => hSall.out _ hbz) ?_
                  clear hC C
                  try simp only [List.getElem_toArray, List.getElem_cons_zero, List.getElem_cons_succ, Act.put, List.setIfInBounds_toArray, List.set_cons_zero, List.set_cons_succ]
                  refine Ord.Till.done (by kernel_rfl) ?_ _
                  clear k0 k1 kf
                  go_wp2_with fail
                  go_meet
                  exact ⟨_, AS', cS', rfl, hrz, hR, oSz, hbz⟩
                · go_simp
                  have hb' := hb.alloc hb.size (.cells #[.slice none 0 0, .slice none 0 0] 25)
                  replace o_S := o_S.alloc (.cells #[.slice none 0 0, .slice none 0 0] 25)
                  replace o_T := o_T.alloc (.cells #[.slice none 0 0, .slice none 0 0] 25)
                  have row := heap_alloc_new y12 (.cells #[.slice none 0 0, .slice none 0 0] 25)
                  have hR := hb.size
                  refine hC.out _ _ (fun _ => hSall.out _ hb') ?_
                  clear hC C
                  try simp only [List.getElem_toArray, List.getElem_cons_zero, List.getElem_cons_succ, Act.put, List.setIfInBounds_toArray, List.set_cons_zero, List.set_cons_succ]
                  clear hb
                  have hb := hb'
                  clear hb'
                  generalize y12.alloc (.cells #[.slice none 0 0, .slice none 0 0] 25) = y15 at *
                  generalize y12.heap.size = g15 at *
                  refine Ord.Till.step 10 (by kernel_rfl) rfl (fun C hC => ?_)
                  obtain ⟨_, _, eT, hrT, _⟩ := o_T.reads
                  injection eT with eT1 _ eT3
                  subst eT1 eT3
                  refine step_syms y15 V.heap.size _ n (scells xs) o_S hb.size _ 1 1 y15.heap.size [⟨x0, x1, x2, x3⟩] (rds_of hrT hx1) (by omega) (by rfl) _ _ (by rfl) (by rfl) (by rfl) ?_
                  intro v16 y16 o_S' hb' ho' hf'
                  rw [← scells_append] at o_S'
                  obtain ⟨AS', cS', rfl, _⟩ := o_S'.reads
                  clear o_S hrT
                  have o_S := o_S'
                  replace row := ho' _ _ row (fun _ _ e => by simp at e)
                  replace hb := hb.trans hb'
                  clear hb' ho' hf' o_S' o_T hap
                  refine hC.out _ _ (fun _ => hSall.out _ hb) ?_
                  clear hC C
                  try simp only [List.getElem_toArray, List.getElem_cons_zero, List.getElem_cons_succ, Act.put, List.setIfInBounds_toArray, List.set_cons_zero, List.set_cons_succ]
                  refine Ord.Till.take' 11 (some 53) (oi := _) (x := ?_) rfl rfl (by kernel_rfl) (by kernel_rfl) (by kernel_rfl) (by kernel_rfl) (fun _ _ _ h => h) (by kernel_rfl) ?_ (hSall.out _ hb) ?_
                  rotate_left 1
                  · intro v hv; obtain ⟨z0, z1, z2, z3, z4, z5⟩ := hv; go_simp; first | done | with_reducible rfl
                  try simp only [Act.put, List.setIfInBounds_toArray, List.set_cons_zero, List.set_cons_succ]
                  have k0 := cell_of_row _ _ 0 _ _ _ row
                  have k1 := cell_of_row _ _ 1 _ _ _ row
                  have kf := fun o => frozen_of_row _ _ o _ _ row
                  have row1 := heap_setCell_same _ _ 0 _ _ (.slice AS' (n + 1) cS') row
                  have hrz := put2_row row (.slice AS' (n + 1) cS') (.slice none 0 0)
                  have hbz := put2_below hb hR (.slice AS' (n + 1) cS') (.slice none 0 0)
                  have oSz := (o_S.setc row (by decide) 0 (.slice AS' (n + 1) cS')).setc row1 (by decide) 1 (.slice none 0 0)
                  unfold put2 at hrz hbz
                  refine Ord.Till.step 13 (by kernel_rfl) rfl (fun C hC => ?_)
                  go_simp
                  refine hC.out _ _ (fun _ => hSall.out _ hbz) ?_
                  clear hC C
                  try simp only [List.getElem_toArray, List.getElem_cons_zero, List.getElem_cons_succ, Act.put, List.setIfInBounds_toArray, List.set_cons_zero, List.set_cons_succ]
                  refine Ord.Till.done (by kernel_rfl) ?_ _
                  clear k0 k1 kf
                  go_wp2_with fail
                  go_meet
                  exact ⟨_, AS', cS', rfl, hrz, hR, oSz, hbz⟩
              · go_simp
                have hb' := hb.alloc hb.size (.cells #[.slice none 0 0, .slice none 0 0] 25)
                replace o_S := o_S.alloc (.cells #[.slice none 0 0, .slice none 0 0] 25)
                replace o_T := o_T.alloc (.cells #[.slice none 0 0, .slice none 0 0] 25)
                have row := heap_alloc_new y11 (.cells #[.slice none 0 0, .slice none 0 0] 25)
                have hR := hb.size
                refine hC.out _ _ (fun _ => hSall.out _ hb') ?_
                clear hC C
                try simp only [List.getElem_toArray, List.getElem_cons_zero, List.getElem_cons_succ, Act.put, List.setIfInBounds_toArray, List.set_cons_zero, List.set_cons_succ]
                clear hb
                have hb := hb'
                clear hb'
                generalize y11.alloc (.cells #[.slice none 0 0, .slice none 0 0] 25) = y17 at *
                generalize y11.heap.size = g17 at *
                refine Ord.Till.step 3 (by kernel_rfl) rfl (fun C hC => ?_)
                refine step_syms y17 V.heap.size _ 0 [] o_S hb.size (some ⟨b, o, none⟩) n c w.heap.size xs (h.below (iV.on hb).b) (by omega) (by rfl) _ _ (by rfl) (by rfl) (by rfl) ?_
                intro v18 y18 o_S' hb' ho' hf'
                rw [Nat.zero_add, List.nil_append] at o_S'
                obtain ⟨AS, cS, rfl, _⟩ := o_S'.reads
                have hap1 : Sls.Apart (.slice (some ⟨_, 0, none⟩) 1 1) (.slice AS n cS) := fun j hj e => by
                  rcases hf'.2 j e with h1 | h1
                  · exact hap j hj h1
                  · have h2 := o_T.blk_lt hj
                    omega
                replace o_T := o_T.fr hf' hap
                clear hap
                have hap := hap1
                clear hap1
                clear o_S
                have o_S := o_S'
                replace row := ho' _ _ row (fun _ _ e => by simp at e)
                replace hb := hb.trans hb'
                clear hb' ho' hf' o_S'
                refine hC.out _ _ (fun _ => hSall.out _ hb) ?_
                clear hC C
                try simp only [List.getElem_toArray, List.getElem_cons_zero, List.getElem_cons_succ, Act.put, List.setIfInBounds_toArray, List.set_cons_zero, List.set_cons_succ]
                refine Ord.Till.step 10 (by kernel_rfl) rfl (fun C hC => ?_)
                obtain ⟨_, _, eT, hrT, _⟩ := o_T.reads
                injection eT with eT1 _ eT3
                subst eT1 eT3
                refine step_syms y18 V.heap.size _ n (scells xs) o_S hb.size _ 1 1 y18.heap.size [⟨x0, x1, x2, x3⟩] (rds_of hrT hx1) (by omega) (by rfl) _ _ (by rfl) (by rfl) (by rfl) ?_
                intro v19 y19 o_S' hb' ho' hf'
                rw [← scells_append] at o_S'
                obtain ⟨AS', cS', rfl, _⟩ := o_S'.reads
                clear o_S hrT
                have o_S := o_S'
                replace row := ho' _ _ row (fun _ _ e => by simp at e)
                replace hb := hb.trans hb'
                clear hb' ho' hf' o_S' o_T hap
                refine hC.out _ _ (fun _ => hSall.out _ hb) ?_
                clear hC C
                try simp only [List.getElem_toArray, List.getElem_cons_zero, List.getElem_cons_succ, Act.put, List.setIfInBounds_toArray, List.set_cons_zero, List.set_cons_succ]
                refine Ord.Till.take' 11 (some 53) (oi := _) (x := ?_) rfl rfl (by kernel_rfl) (by kernel_rfl) (by kernel_rfl) (by kernel_rfl) (fun _ _ _ h => h) (by kernel_rfl) ?_ (hSall.out _ hb) ?_
                rotate_left 1
                · intro v hv; obtain ⟨z0, z1, z2, z3, z4, z5⟩ := hv; go_simp; first | done | with_reducible rfl
                try simp only [Act.put, List.setIfInBounds_toArray, List.set_cons_zero, List.set_cons_succ]
                have k0 := cell_of_row _ _ 0 _ _ _ row
                have k1 := cell_of_row _ _ 1 _ _ _ row
                have kf := fun o => frozen_of_row _ _ o _ _ row
                have row1 := heap_setCell_same _ _ 0 _ _ (.slice AS' (n + 1) cS') row
                have hrz := put2_row row (.slice AS' (n + 1) cS') (.slice none 0 0)
                have hbz := put2_below hb hR (.slice AS' (n + 1) cS') (.slice none 0 0)
                have oSz := (o_S.setc row (by decide) 0 (.slice AS' (n + 1) cS')).setc row1 (by decide) 1 (.slice none 0 0)
                unfold put2 at hrz hbz
                refine Ord.Till.step 13 (by kernel_rfl) rfl (fun C hC => ?_)
                go_simp
                refine hC.out _ _ (fun _ => hSall.out _ hbz) ?_
                clear hC C
                try simp only [List.getElem_toArray, List.getElem_cons_zero, List.getElem_cons_succ, Act.put, List.setIfInBounds_toArray, List.set_cons_zero, List.set_cons_succ]
                refine Ord.Till.done (by kernel_rfl) ?_ _
                clear k0 k1 kf
                go_wp2_with fail
                go_meet
                exact ⟨_, AS', cS', rfl, hrz, hR, oSz, hbz⟩
            · go_simp
              have hb' := hb.alloc hb.size (.cells #[.slice none 0 0, .slice none 0 0] 25)
              replace o_S := o_S.alloc (.cells #[.slice none 0 0, .slice none 0 0] 25)
              have row := heap_alloc_new y1 (.cells #[.slice none 0 0, .slice none 0 0] 25)
              have hR := hb.size
              refine hC.out _ _ (fun _ => hSall.out _ hb') ?_
              clear hC C
              try simp only [List.getElem_toArray, List.getElem_cons_zero, List.getElem_cons_succ, Act.put, List.setIfInBounds_toArray, List.set_cons_zero, List.set_cons_succ]
              clear hb
              have hb := hb'
              clear hb'
              generalize y1.alloc (.cells #[.slice none 0 0, .slice none 0 0] 25) = y20 at *
              generalize y1.heap.size = g20 at *
              refine Ord.Till.two 3 9 (by kernel_rfl) rfl rfl (fun C hC => ?_) (fun C hC => ?_)
              · refine step_syms y20 V.heap.size _ 0 [] o_S hb.size (some ⟨b, o, none⟩) n c w.heap.size xs (h.below (iV.on hb).b) (by omega) (by rfl) _ _ (by rfl) (by rfl) (by rfl) ?_
                intro v21 y21 o_S' hb' ho' hf'
                rw [Nat.zero_add, List.nil_append] at o_S'
                obtain ⟨AS, cS, rfl, _⟩ := o_S'.reads
                clear o_S
                have o_S := o_S'
                replace row := ho' _ _ row (fun _ _ e => by simp at e)
                replace hb := hb.trans hb'
                clear hb' ho' hf' o_S'
                refine hC.out _ _ (fun _ => hSall.out _ hb) ?_
                clear hC C
                try simp only [List.getElem_toArray, List.getElem_cons_zero, List.getElem_cons_succ, Act.put, List.setIfInBounds_toArray, List.set_cons_zero, List.set_cons_succ]
                refine Ord.Till.step 9 (by kernel_rfl) rfl (fun C hC => ?_)
                go_simp
                have hb' := hb.alloc hb.size (.cells #[.string x0, .int .i64 x1, .int .i64 x2, .int .i64 x3] 38)
                have hap : Sls.Apart (.slice (some ⟨y21.heap.size, 0, none⟩) 1 1) _ := fun j hj e => by
                  have h1 := o_S.blk_lt e
                  injection hj with hj
                  have e2 : y21.heap.size = j := hj
                  omega
                replace o_S := o_S.alloc (.cells #[.string x0, .int .i64 x1, .int .i64 x2, .int .i64 x3] 38)
                replace row := (Below.heap_alloc y21 (.cells #[.string x0, .int .i64 x1, .int .i64 x2, .int .i64 x3] 38) _ (Array.getElem?_eq_some_iff.1 row).1).trans row
                have o_T := syms_lit1 y21 V.heap.size x0 x1 x2 x3 hb.size
                refine hC.out _ _ (fun _ => hSall.out _ hb') ?_
                clear hC C
                try simp only [List.getElem_toArray, List.getElem_cons_zero, List.getElem_cons_succ, Act.put, List.setIfInBounds_toArray, List.set_cons_zero, List.set_cons_succ]
                clear hb
                have hb := hb'
                clear hb'
                generalize y21.alloc (.cells #[.string x0, .int .i64 x1, .int .i64 x2, .int .i64 x3] 38) = y22 at *
                generalize y21.heap.size = g22 at *
                refine Ord.Till.step 10 (by kernel_rfl) rfl (fun C hC => ?_)
                obtain ⟨_, _, eT, hrT, _⟩ := o_T.reads
                injection eT with eT1 _ eT3
                subst eT1 eT3
                refine step_syms y22 V.heap.size _ n (scells xs) o_S hb.size _ 1 1 y22.heap.size [⟨x0, x1, x2, x3⟩] (rds_of hrT hx1) (by omega) (by rfl) _ _ (by rfl) (by rfl) (by rfl) ?_
                intro v23 y23 o_S' hb' ho' hf'
                rw [← scells_append] at o_S'
                obtain ⟨AS', cS', rfl, _⟩ := o_S'.reads
                clear o_S hrT
                have o_S := o_S'
                replace row := ho' _ _ row (fun _ _ e => by simp at e)
                replace hb := hb.trans hb'
                clear hb' ho' hf' o_S' o_T hap
                refine hC.out _ _ (fun _ => hSall.out _ hb) ?_
                clear hC C
                try simp only [List.getElem_toArray, List.getElem_cons_zero, List.getElem_cons_succ, Act.put, List.setIfInBounds_toArray, List.set_cons_zero, List.set_cons_succ]
                refine Ord.Till.take' 11 (some 53) (oi := _) (x := ?_) rfl rfl (by kernel_rfl) (by kernel_rfl) (by kernel_rfl) (by kernel_rfl) (fun _ _ _ h => h) (by kernel_rfl) ?_ (hSall.out _ hb) ?_
                rotate_left 1
                · intro v hv; obtain ⟨z0, z1, z2, z3, z4, z5⟩ := hv; go_simp; first | done | with_reducible rfl
                try simp only [Act.put, List.setIfInBounds_toArray, List.set_cons_zero, List.set_cons_succ]
                have k0 := cell_of_row _ _ 0 _ _ _ row
                have k1 := cell_of_row _ _ 1 _ _ _ row
                have kf := fun o => frozen_of_row _ _ o _ _ row
                have row1 := heap_setCell_same _ _ 0 _ _ (.slice AS' (n + 1) cS') row
                have hrz := put2_row row (.slice AS' (n + 1) cS') (.slice none 0 0)
                have hbz := put2_below hb hR (.slice AS' (n + 1) cS') (.slice none 0 0)
                have oSz := (o_S.setc row (by decide) 0 (.slice AS' (n + 1) cS')).setc row1 (by decide) 1 (.slice none 0 0)
                unfold put2 at hrz hbz
                refine Ord.Till.step 13 (by kernel_rfl) rfl (fun C hC => ?_)
                go_simp
                refine hC.out _ _ (fun _ => hSall.out _ hbz) ?_
                clear hC C
                try simp only [List.getElem_toArray, List.getElem_cons_zero, List.getElem_cons_succ, Act.put, List.setIfInBounds_toArray, List.set_cons_zero, List.set_cons_succ]
                refine Ord.Till.done (by kernel_rfl) ?_ _
                clear k0 k1 kf
                go_wp2_with fail
                go_meet
                exact ⟨_, AS', cS', rfl, hrz, hR, oSz, hbz⟩
              · go_simp
                have hb' := hb.alloc hb.size (.cells #[.string x0, .int .i64 x1, .int .i64 x2, .int .i64 x3] 38)
                have hap : Sls.Apart (.slice (some ⟨y20.heap.size, 0, none⟩) 1 1) _ := fun j hj e => by
                  have h1 := o_S.blk_lt e
                  injection hj with hj
                  have e2 : y20.heap.size = j := hj
                  omega
                replace o_S := o_S.alloc (.cells #[.string x0, .int .i64 x1, .int .i64 x2, .int .i64 x3] 38)
                replace row := (Below.heap_alloc y20 (.cells #[.string x0, .int .i64 x1, .int .i64 x2, .int .i64 x3] 38) _ (Array.getElem?_eq_some_iff.1 row).1).trans row
                have o_T := syms_lit1 y20 V.heap.size x0 x1 x2 x3 hb.size
                refine hC.out _ _ (fun _ => hSall.out _ hb') ?_
                clear hC C
                try simp only [List.getElem_toArray, List.getElem_cons_zero, List.getElem_cons_succ, Act.put, List.setIfInBounds_toArray, List.set_cons_zero, List.set_cons_succ]
                clear hb
                have hb := hb'
                clear hb'
                generalize y20.alloc (.cells #[.string x0, .int .i64 x1, .int .i64 x2, .int .i64 x3] 38) = y24 at *
                generalize y20.heap.size = g24 at *
                refine Ord.Till.step 3 (by kernel_rfl) rfl (fun C hC => ?_)
                refine step_syms y24 V.heap.size _ 0 [] o_S hb.size (some ⟨b, o, none⟩) n c w.heap.size xs (h.below (iV.on hb).b) (by omega) (by rfl) _ _ (by rfl) (by rfl) (by rfl) ?_
                intro v25 y25 o_S' hb' ho' hf'
                rw [Nat.zero_add, List.nil_append] at o_S'
                obtain ⟨AS, cS, rfl, _⟩ := o_S'.reads
                have hap1 : Sls.Apart (.slice (some ⟨_, 0, none⟩) 1 1) (.slice AS n cS) := fun j hj e => by
                  rcases hf'.2 j e with h1 | h1
                  · exact hap j hj h1
                  · have h2 := o_T.blk_lt hj
                    omega
                replace o_T := o_T.fr hf' hap
                clear hap
                have hap := hap1
                clear hap1
                clear o_S
                have o_S := o_S'
                replace row := ho' _ _ row (fun _ _ e => by simp at e)
                replace hb := hb.trans hb'
                clear hb' ho' hf' o_S'
                refine hC.out _ _ (fun _ => hSall.out _ hb) ?_
                clear hC C
                try simp only [List.getElem_toArray, List.getElem_cons_zero, List.getElem_cons_succ, Act.put, List.setIfInBounds_toArray, List.set_cons_zero, List.set_cons_succ]
                refine Ord.Till.step 10 (by kernel_rfl) rfl (fun C hC => ?_)
                obtain ⟨_, _, eT, hrT, _⟩ := o_T.reads
                injection eT with eT1 _ eT3
                subst eT1 eT3
                refine step_syms y25 V.heap.size _ n (scells xs) o_S hb.size _ 1 1 y25.heap.size [⟨x0, x1, x2, x3⟩] (rds_of hrT hx1) (by omega) (by rfl) _ _ (by rfl) (by rfl) (by rfl) ?_
                intro v26 y26 o_S' hb' ho' hf'
                rw [← scells_append] at o_S'
                obtain ⟨AS', cS', rfl, _⟩ := o_S'.reads
                clear o_S hrT
                have o_S := o_S'
                replace row := ho' _ _ row (fun _ _ e => by simp at e)
                replace hb := hb.trans hb'
                clear hb' ho' hf' o_S' o_T hap
                refine hC.out _ _ (fun _ => hSall.out _ hb) ?_
                clear hC C
                try simp only [List.getElem_toArray, List.getElem_cons_zero, List.getElem_cons_succ, Act.put, List.setIfInBounds_toArray, List.set_cons_zero, List.set_cons_succ]
                refine Ord.Till.take' 11 (some 53) (oi := _) (x := ?_) rfl rfl (by kernel_rfl) (by kernel_rfl) (by kernel_rfl) (by kernel_rfl) (fun _ _ _ h => h) (by kernel_rfl) ?_ (hSall.out _ hb) ?_
                rotate_left 1
                · intro v hv; obtain ⟨z0, z1, z2, z3, z4, z5⟩ := hv; go_simp; first | done | with_reducible rfl
                try simp only [Act.put, List.setIfInBounds_toArray, List.set_cons_zero, List.set_cons_succ]
                have k0 := cell_of_row _ _ 0 _ _ _ row
                have k1 := cell_of_row _ _ 1 _ _ _ row
                have kf := fun o => frozen_of_row _ _ o _ _ row
                have row1 := heap_setCell_same _ _ 0 _ _ (.slice AS' (n + 1) cS') row
                have hrz := put2_row row (.slice AS' (n + 1) cS') (.slice none 0 0)
                have hbz := put2_below hb hR (.slice AS' (n + 1) cS') (.slice none 0 0)
                have oSz := (o_S.setc row (by decide) 0 (.slice AS' (n + 1) cS')).setc row1 (by decide) 1 (.slice none 0 0)
                unfold put2 at hrz hbz
                refine Ord.Till.step 13 (by kernel_rfl) rfl (fun C hC => ?_)
                go_simp
                refine hC.out _ _ (fun _ => hSall.out _ hbz) ?_
                clear hC C
                try simp only [List.getElem_toArray, List.getElem_cons_zero, List.getElem_cons_succ, Act.put, List.setIfInBounds_toArray, List.set_cons_zero, List.set_cons_succ]
                refine Ord.Till.done (by kernel_rfl) ?_ _
                clear k0 k1 kf
                go_wp2_with fail
                go_meet
                exact ⟨_, AS', cS', rfl, hrz, hR, oSz, hbz⟩
          · go_simp
            have hb' := hb.alloc hb.size (.cells #[.string x0, .int .i64 x1, .int .i64 x2, .int .i64 x3] 38)
            have o_T := syms_lit1 y0 V.heap.size x0 x1 x2 x3 hb.size
            refine hC.out _ _ (fun _ => hSall.out _ hb') ?_
            clear hC C
            try simp only [List.getElem_toArray, List.getElem_cons_zero, List.getElem_cons_succ, Act.put, List.setIfInBounds_toArray, List.set_cons_zero, List.set_cons_succ]
            clear hb
            have hb := hb'
            clear hb'
            generalize y0.alloc (.cells #[.string x0, .int .i64 x1, .int .i64 x2, .int .i64 x3] 38) = y27 at *
            generalize y0.heap.size = g27 at *
            refine Ord.Till.two 0 12 (by kernel_rfl) rfl rfl (fun C hC => ?_) (fun C hC => ?_)
            · go_simp
              have hb' := hb.alloc hb.size (.cells #[] 38)
              have hap : Sls.Apart (.slice (some ⟨_, 0, none⟩) 1 1) (.slice (some ⟨y27.heap.size, 0, none⟩) 0 0) := fun j hj e => by
                have h1 := o_T.blk_lt hj
                injection e with e
                have e2 : y27.heap.size = j := e
                omega
              replace o_T := o_T.alloc (.cells #[] 38)
              have o_S := syms_lit0 y27 V.heap.size hb.size
              refine hC.out _ _ (fun _ => hSall.out _ hb') ?_
              clear hC C
              try simp only [List.getElem_toArray, List.getElem_cons_zero, List.getElem_cons_succ, Act.put, List.setIfInBounds_toArray, List.set_cons_zero, List.set_cons_succ]
              clear hb
              have hb := hb'
              clear hb'
              generalize y27.alloc (.cells #[] 38) = y28 at *
              generalize y27.heap.size = g28 at *
              refine Ord.Till.two 3 12 (by kernel_rfl) rfl rfl (fun C hC => ?_) (fun C hC => ?_)
              · refine step_syms y28 V.heap.size _ 0 [] o_S hb.size (some ⟨b, o, none⟩) n c w.heap.size xs (h.below (iV.on hb).b) (by omega) (by rfl) _ _ (by rfl) (by rfl) (by rfl) ?_
                intro v29 y29 o_S' hb' ho' hf'
                rw [Nat.zero_add, List.nil_append] at o_S'
                obtain ⟨AS, cS, rfl, _⟩ := o_S'.reads
                have hap1 : Sls.Apart (.slice (some ⟨_, 0, none⟩) 1 1) (.slice AS n cS) := fun j hj e => by
                  rcases hf'.2 j e with h1 | h1
                  · exact hap j hj h1
                  · have h2 := o_T.blk_lt hj
                    omega
                replace o_T := o_T.fr hf' hap
                clear hap
                have hap := hap1
                clear hap1
                clear o_S
                have o_S := o_S'
                replace hb := hb.trans hb'
                clear hb' ho' hf' o_S'
                refine hC.out _ _ (fun _ => hSall.out _ hb) ?_
                clear hC C
                try simp only [List.getElem_toArray, List.getElem_cons_zero, List.getElem_cons_succ, Act.put, List.setIfInBounds_toArray, List.set_cons_zero, List.set_cons_succ]
                refine Ord.Till.two 10 12 (by kernel_rfl) rfl rfl (fun C hC => ?_) (fun C hC => ?_)
                · obtain ⟨_, _, eT, hrT, _⟩ := o_T.reads
                  injection eT with eT1 _ eT3
                  subst eT1 eT3
                  refine step_syms y29 V.heap.size _ n (scells xs) o_S hb.size _ 1 1 y29.heap.size [⟨x0, x1, x2, x3⟩] (rds_of hrT hx1) (by omega) (by rfl) _ _ (by rfl) (by rfl) (by rfl) ?_
                  intro v30 y30 o_S' hb' ho' hf'
                  rw [← scells_append] at o_S'
                  obtain ⟨AS', cS', rfl, _⟩ := o_S'.reads
                  clear o_S hrT
                  have o_S := o_S'
                  replace hb := hb.trans hb'
                  clear hb' ho' hf' o_S' o_T hap
                  refine hC.out _ _ (fun _ => hSall.out _ hb) ?_
                  clear hC C
                  try simp only [List.getElem_toArray, List.getElem_cons_zero, List.getElem_cons_succ, Act.put, List.setIfInBounds_toArray, List.set_cons_zero, List.set_cons_succ]
                  refine Ord.Till.take' 11 (some 53) (oi := _) (x := ?_) rfl rfl (by kernel_rfl) (by kernel_rfl) (by kernel_rfl) (by kernel_rfl) (fun _ _ _ h => h) (by kernel_rfl) ?_ (hSall.out _ hb) ?_
                  rotate_left 1
                  · intro v hv; obtain ⟨z0, z1, z2, z3, z4, z5⟩ := hv; go_simp; first | done | with_reducible rfl
                  try simp only [Act.put, List.setIfInBounds_toArray, List.set_cons_zero, List.set_cons_succ]
                  refine Ord.Till.step 12 (by kernel_rfl) rfl (fun C hC => ?_)
                  go_simp
                  have hb' := hb.alloc hb.size (.cells #[.slice none 0 0, .slice none 0 0] 25)
                  replace o_S := o_S.alloc (.cells #[.slice none 0 0, .slice none 0 0] 25)
                  have row := heap_alloc_new y30 (.cells #[.slice none 0 0, .slice none 0 0] 25)
                  have hR := hb.size
                  refine hC.out _ _ (fun _ => hSall.out _ hb') ?_
                  clear hC C
                  try simp only [List.getElem_toArray, List.getElem_cons_zero, List.getElem_cons_succ, Act.put, List.setIfInBounds_toArray, List.set_cons_zero, List.set_cons_succ]
                  clear hb
                  have hb := hb'
                  clear hb'
                  generalize y30.alloc (.cells #[.slice none 0 0, .slice none 0 0] 25) = y31 at *
                  generalize y30.heap.size = g31 at *
                  have k0 := cell_of_row _ _ 0 _ _ _ row
                  have k1 := cell_of_row _ _ 1 _ _ _ row
                  have kf := fun o => frozen_of_row _ _ o _ _ row
                  have row1 := heap_setCell_same _ _ 0 _ _ (.slice AS' (n + 1) cS') row
                  have hrz := put2_row row (.slice AS' (n + 1) cS') (.slice none 0 0)
                  have hbz := put2_below hb hR (.slice AS' (n + 1) cS') (.slice none 0 0)
                  have oSz := (o_S.setc row (by decide) 0 (.slice AS' (n + 1) cS')).setc row1 (by decide) 1 (.slice none 0 0)
                  unfold put2 at hrz hbz
                  refine Ord.Till.step 13 (by kernel_rfl) rfl (fun C hC => ?_)
                  go_simp
                  refine hC.out _ _ (fun _ => hSall.out _ hbz) ?_
                  clear hC C
                  try simp only [List.getElem_toArray, List.getElem_cons_zero, List.getElem_cons_succ, Act.put, List.setIfInBounds_toArray, List.set_cons_zero, List.set_cons_succ]
                  refine Ord.Till.done (by kernel_rfl) ?_ _
                  clear k0 k1 kf
                  go_wp2_with fail
                  go_meet
                  exact ⟨_, AS', cS', rfl, hrz, hR, oSz, hbz⟩
                · go_simp
                  have hb' := hb.alloc hb.size (.cells #[.slice none 0 0, .slice none 0 0] 25)
                  replace o_S := o_S.alloc (.cells #[.slice none 0 0, .slice none 0 0] 25)
                  replace o_T := o_T.alloc (.cells #[.slice none 0 0, .slice none 0 0] 25)
                  have row := heap_alloc_new y29 (.cells #[.slice none 0 0, .slice none 0 0] 25)
                  have hR := hb.size
                  refine hC.out _ _ (fun _ => hSall.out _ hb') ?_
                  clear hC C
                  try simp only [List.getElem_toArray, List.getElem_cons_zero, List.getElem_cons_succ, Act.put, List.setIfInBounds_toArray, List.set_cons_zero, List.set_cons_succ]
                  clear hb
                  have hb := hb'
                  clear hb'
                  generalize y29.alloc (.cells #[.slice none 0 0, .slice none 0 0] 25) = y32 at *
                  generalize y29.heap.size = g32 at *
                  refine Ord.Till.step 10 (by kernel_rfl) rfl (fun C hC => ?_)
                  obtain ⟨_, _, eT, hrT, _⟩ := o_T.reads
                  injection eT with eT1 _ eT3
                  subst eT1 eT3
                  refine step_syms y32 V.heap.size _ n (scells xs) o_S hb.size _ 1 1 y32.heap.size [⟨x0, x1, x2, x3⟩] (rds_of hrT hx1) (by omega) (by rfl) _ _ (by rfl) (by rfl) (by rfl) ?_
                  intro v33 y33 o_S' hb' ho' hf'
                  rw [← scells_append] at o_S'
                  obtain ⟨AS', cS', rfl, _⟩ := o_S'.reads
                  clear o_S hrT
                  have o_S := o_S'
                  replace row := ho' _ _ row (fun _ _ e => by simp at e)
                  replace hb := hb.trans hb'
                  clear hb' ho' hf' o_S' o_T hap
                  refine hC.out _ _ (fun _ => hSall.out _ hb) ?_
                  clear hC C
                  try simp only [List.getElem_toArray, List.getElem_cons_zero, List.getElem_cons_succ, Act.put, List.setIfInBounds_toArray, List.set_cons_zero, List.set_cons_succ]
                  refine Ord.Till.take' 11 (some 53) (oi := _) (x := ?_) rfl rfl (by kernel_rfl) (by kernel_rfl) (by kernel_rfl) (by kernel_rfl) (fun _ _ _ h => h) (by kernel_rfl) ?_ (hSall.out _ hb) ?_
                  rotate_left 1
                  · intro v hv; obtain ⟨z0, z1, z2, z3, z4, z5⟩ := hv; go_simp; first | done | with_reducible rfl
                  try simp only [Act.put, List.setIfInBounds_toArray, List.set_cons_zero, List.set_cons_succ]
                  have k0 := cell_of_row _ _ 0 _ _ _ row
                  have k1 := cell_of_row _ _ 1 _ _ _ row
                  have kf := fun o => frozen_of_row _ _ o _ _ row
                  have row1 := heap_setCell_same _ _ 0 _ _ (.slice AS' (n + 1) cS') row
                  have hrz := put2_row row (.slice AS' (n + 1) cS') (.slice none 0 0)
                  have hbz := put2_below hb hR (.slice AS' (n + 1) cS') (.slice none 0 0)
                  have oSz := (o_S.setc row (by decide) 0 (.slice AS' (n + 1) cS')).setc row1 (by decide) 1 (.slice none 0 0)
                  unfold put2 at hrz hbz
                  refine Ord.Till.step 13 (by kernel_rfl) rfl (fun C hC => ?_)
                  go_simp
                  refine hC.out _ _ (fun _ => hSall.out _ hbz) ?_
                  clear hC C
                  try simp only [List.getElem_toArray, List.getElem_cons_zero, List.getElem_cons_succ, Act.put, List.setIfInBounds_toArray, List.set_cons_zero, List.set_cons_succ]
                  refine Ord.Till.done (by kernel_rfl) ?_ _
                  clear k0 k1 kf
                  go_wp2_with fail
                  go_meet
                  exact ⟨_, AS', cS', rfl, hrz, hR, oSz, hbz⟩
              · go_simp
                have hb' := hb.alloc hb.size (.cells #[.slice none 0 0, .slice none 0 0] 25)
                replace o_S := o_S.alloc (.cells #[.slice none 0 0, .slice none 0 0] 25)
                replace o_T := o_T.alloc (.cells #[.slice none 0 0, .slice none 0 0] 25)
                have row := heap_alloc_new y28 (.cells #[.slice none 0 0, .slice none 0 0] 25)
                have hR := hb.size
                refine hC.out _ _ (fun _ => hSall.out _ hb') ?_
                clear hC C
                try simp only [List.getElem_toArray, List.getElem_cons_zero, List.getElem_cons_succ, Act.put, List.setIfInBounds_toArray, List.set_cons_zero, List.set_cons_succ]
                clear hb
                have hb := hb'
                clear hb'
                generalize y28.alloc (.cells #[.slice none 0 0, .slice none 0 0] 25) = y34 at *
                generalize y28.heap.size = g34 at *
                refine Ord.Till.step 3 (by kernel_rfl) rfl (fun C hC => ?_)
                refine step_syms y34 V.heap.size _ 0 [] o_S hb.size (some ⟨b, o, none⟩) n c w.heap.size xs (h.below (iV.on hb).b) (by omega) (by rfl) _ _ (by rfl) (by rfl) (by rfl) ?_
                intro v35 y35 o_S' hb' ho' hf'
                rw [Nat.zero_add, List.nil_append] at o_S'
                obtain ⟨AS, cS, rfl, _⟩ := o_S'.reads
                have hap1 : Sls.Apart (.slice (some ⟨_, 0, none⟩) 1 1) (.slice AS n cS) := fun j hj e => by
                  rcases hf'.2 j e with h1 | h1
                  · exact hap j hj h1
                  · have h2 := o_T.blk_lt hj
                    omega
                replace o_T := o_T.fr hf' hap
                clear hap
                have hap := hap1
                clear hap1
                clear o_S
                have o_S := o_S'
                replace row := ho' _ _ row (fun _ _ e => by simp at e)
                replace hb := hb.trans hb'
                clear hb' ho' hf' o_S'
                refine hC.out _ _ (fun _ => hSall.out _ hb) ?_
                clear hC C
                try simp only [List.getElem_toArray, List.getElem_cons_zero, List.getElem_cons_succ, Act.put, List.setIfInBounds_toArray, List.set_cons_zero, List.set_cons_succ]
                refine Ord.Till.step 10 (by kernel_rfl) rfl (fun C hC => ?_)
                obtain ⟨_, _, eT, hrT, _⟩ := o_T.reads
                injection eT with eT1 _ eT3
                subst eT1 eT3
                refine step_syms y35 V.heap.size _ n (scells xs) o_S hb.size _ 1 1 y35.heap.size [⟨x0, x1, x2, x3⟩] (rds_of hrT hx1) (by omega) (by rfl) _ _ (by rfl) (by rfl) (by rfl) ?_
                intro v36 y36 o_S' hb' ho' hf'
                rw [← scells_append] at o_S'
                obtain ⟨AS', cS', rfl, _⟩ := o_S'.reads
                clear o_S hrT
                have o_S := o_S'
                replace row := ho' _ _ row (fun _ _ e => by simp at e)
                replace hb := hb.trans hb'
                clear hb' ho' hf' o_S' o_T hap
                refine hC.out _ _ (fun _ => hSall.out _ hb) ?_
                clear hC C
                try simp only [List.getElem_toArray, List.getElem_cons_zero, List.getElem_cons_succ, Act.put, List.setIfInBounds_toArray, List.set_cons_zero, List.set_cons_succ]
                refine Ord.Till.take' 11 (some 53) (oi := _) (x := ?_) rfl rfl (by kernel_rfl) (by kernel_rfl) (by kernel_rfl) (by kernel_rfl) (fun _ _ _ h => h) (by kernel_rfl) ?_ (hSall.out _ hb) ?_
                rotate_left 1
                · intro v hv; obtain ⟨z0, z1, z2, z3, z4, z5⟩ := hv; go_simp; first | done | with_reducible rfl
                try simp only [Act.put, List.setIfInBounds_toArray, List.set_cons_zero, List.set_cons_succ]
                have k0 := cell_of_row _ _ 0 _ _ _ row
                have k1 := cell_of_row _ _ 1 _ _ _ row
                have kf := fun o => frozen_of_row _ _ o _ _ row
                have row1 := heap_setCell_same _ _ 0 _ _ (.slice AS' (n + 1) cS') row
                have hrz := put2_row row (.slice AS' (n + 1) cS') (.slice none 0 0)
                have hbz := put2_below hb hR (.slice AS' (n + 1) cS') (.slice none 0 0)
                have oSz := (o_S.setc row (by decide) 0 (.slice AS' (n + 1) cS')).setc row1 (by decide) 1 (.slice none 0 0)
                unfold put2 at hrz hbz
                refine Ord.Till.step 13 (by kernel_rfl) rfl (fun C hC => ?_)
                go_simp
                refine hC.out _ _ (fun _ => hSall.out _ hbz) ?_
                clear hC C
                try simp only [List.getElem_toArray, List.getElem_cons_zero, List.getElem_cons_succ, Act.put, List.setIfInBounds_toArray, List.set_cons_zero, List.set_cons_succ]
                refine Ord.Till.done (by kernel_rfl) ?_ _
                clear k0 k1 kf
                go_wp2_with fail
                go_meet
                exact ⟨_, AS', cS', rfl, hrz, hR, oSz, hbz⟩
            · go_simp
              have hb' := hb.alloc hb.size (.cells #[.slice none 0 0, .slice none 0 0] 25)
              replace o_T := o_T.alloc (.cells #[.slice none 0 0, .slice none 0 0] 25)
              have row := heap_alloc_new y27 (.cells #[.slice none 0 0, .slice none 0 0] 25)
              have hR := hb.size
              refine hC.out _ _ (fun _ => hSall.out _ hb') ?_
              clear hC C
              try simp only [List.getElem_toArray, List.getElem_cons_zero, List.getElem_cons_succ, Act.put, List.setIfInBounds_toArray, List.set_cons_zero, List.set_cons_succ]
              clear hb
              have hb := hb'
              clear hb'
              generalize y27.alloc (.cells #[.slice none 0 0, .slice none 0 0] 25) = y37 at *
              generalize y27.heap.size = g37 at *
              refine Ord.Till.step 0 (by kernel_rfl) rfl (fun C hC => ?_)
              go_simp
              have hb' := hb.alloc hb.size (.cells #[] 38)
              have hap : Sls.Apart (.slice (some ⟨_, 0, none⟩) 1 1) (.slice (some ⟨y37.heap.size, 0, none⟩) 0 0) := fun j hj e => by
                have h1 := o_T.blk_lt hj
                injection e with e
                have e2 : y37.heap.size = j := e
                omega
              replace o_T := o_T.alloc (.cells #[] 38)
              replace row := (Below.heap_alloc y37 (.cells #[] 38) _ (Array.getElem?_eq_some_iff.1 row).1).trans row
              have o_S := syms_lit0 y37 V.heap.size hb.size
              refine hC.out _ _ (fun _ => hSall.out _ hb') ?_
              clear hC C
              try simp only [List.getElem_toArray, List.getElem_cons_zero, List.getElem_cons_succ, Act.put, List.setIfInBounds_toArray, List.set_cons_zero, List.set_cons_succ]
              clear hb
              have hb := hb'
              clear hb'
              generalize y37.alloc (.cells #[] 38) = y38 at *
              generalize y37.heap.size = g38 at *
              refine Ord.Till.step 3 (by kernel_rfl) rfl (fun C hC => ?_)
              refine step_syms y38 V.heap.size _ 0 [] o_S hb.size (some ⟨b, o, none⟩) n c w.heap.size xs (h.below (iV.on hb).b) (by omega) (by rfl) _ _ (by rfl) (by rfl) (by rfl) ?_
              intro v39 y39 o_S' hb' ho' hf'
              rw [Nat.zero_add, List.nil_append] at o_S'
              obtain ⟨AS, cS, rfl, _⟩ := o_S'.reads
              have hap1 : Sls.Apart (.slice (some ⟨_, 0, none⟩) 1 1) (.slice AS n cS) := fun j hj e => by
                rcases hf'.2 j e with h1 | h1
                · exact hap j hj h1
                · have h2 := o_T.blk_lt hj
                  omega
              replace o_T := o_T.fr hf' hap
              clear hap
              have hap := hap1
              clear hap1
              clear o_S
              have o_S := o_S'
              replace row := ho' _ _ row (fun _ _ e => by simp at e)
              replace hb := hb.trans hb'
              clear hb' ho' hf' o_S'
              refine hC.out _ _ (fun _ => hSall.out _ hb) ?_
              clear hC C
              try simp only [List.getElem_toArray, List.getElem_cons_zero, List.getElem_cons_succ, Act.put, List.setIfInBounds_toArray, List.set_cons_zero, List.set_cons_succ]
              refine Ord.Till.step 10 (by kernel_rfl) rfl (fun C hC => ?_)
              obtain ⟨_, _, eT, hrT, _⟩ := o_T.reads
              injection eT with eT1 _ eT3
              subst eT1 eT3
              refine step_syms y39 V.heap.size _ n (scells xs) o_S hb.size _ 1 1 y39.heap.size [⟨x0, x1, x2, x3⟩] (rds_of hrT hx1) (by omega) (by rfl) _ _ (by rfl) (by rfl) (by rfl) ?_
              intro v40 y40 o_S' hb' ho' hf'
              rw [← scells_append] at o_S'
              obtain ⟨AS', cS', rfl, _⟩ := o_S'.reads
              clear o_S hrT
              have o_S := o_S'
              replace row := ho' _ _ row (fun _ _ e => by simp at e)
              replace hb := hb.trans hb'
              clear hb' ho' hf' o_S' o_T hap
              refine hC.out _ _ (fun _ => hSall.out _ hb) ?_
              clear hC C
              try simp only [List.getElem_toArray, List.getElem_cons_zero, List.getElem_cons_succ, Act.put, List.setIfInBounds_toArray, List.set_cons_zero, List.set_cons_succ]
              refine Ord.Till.take' 11 (some 53) (oi := _) (x := ?_) rfl rfl (by kernel_rfl) (by kernel_rfl) (by kernel_rfl) (by kernel_rfl) (fun _ _ _ h => h) (by kernel_rfl) ?_ (hSall.out _ hb) ?_
              rotate_left 1
              · intro v hv; obtain ⟨z0, z1, z2, z3, z4, z5⟩ := hv; go_simp; first | done | with_reducible rfl
              try simp only [Act.put, List.setIfInBounds_toArray, List.set_cons_zero, List.set_cons_succ]
              have k0 := cell_of_row _ _ 0 _ _ _ row
              have k1 := cell_of_row _ _ 1 _ _ _ row
              have kf := fun o => frozen_of_row _ _ o _ _ row
              have row1 := heap_setCell_same _ _ 0 _ _ (.slice AS' (n + 1) cS') row
              have hrz := put2_row row (.slice AS' (n + 1) cS') (.slice none 0 0)
              have hbz := put2_below hb hR (.slice AS' (n + 1) cS') (.slice none 0 0)
              have oSz := (o_S.setc row (by decide) 0 (.slice AS' (n + 1) cS')).setc row1 (by decide) 1 (.slice none 0 0)
              unfold put2 at hrz hbz
              refine Ord.Till.step 13 (by kernel_rfl) rfl (fun C hC => ?_)
              go_simp
              refine hC.out _ _ (fun _ => hSall.out _ hbz) ?_
              clear hC C
              try simp only [List.getElem_toArray, List.getElem_cons_zero, List.getElem_cons_succ, Act.put, List.setIfInBounds_toArray, List.set_cons_zero, List.set_cons_succ]
              refine Ord.Till.done (by kernel_rfl) ?_ _
              clear k0 k1 kf
              go_wp2_with fail
              go_meet
              exact ⟨_, AS', cS', rfl, hrz, hR, oSz, hbz⟩
          · go_simp
            have hb' := hb.alloc hb.size (.cells #[.slice none 0 0, .slice none 0 0] 25)
            have row := heap_alloc_new y0 (.cells #[.slice none 0 0, .slice none 0 0] 25)
            have hR := hb.size
            refine hC.out _ _ (fun _ => hSall.out _ hb') ?_
            clear hC C
            try simp only [List.getElem_toArray, List.getElem_cons_zero, List.getElem_cons_succ, Act.put, List.setIfInBounds_toArray, List.set_cons_zero, List.set_cons_succ]
            clear hb
            have hb := hb'
            clear hb'
            generalize y0.alloc (.cells #[.slice none 0 0, .slice none 0 0] 25) = y41 at *
            generalize y0.heap.size = g41 at *
            refine Ord.Till.two 0 9 (by kernel_rfl) rfl rfl (fun C hC => ?_) (fun C hC => ?_)
            · go_simp
              have hb' := hb.alloc hb.size (.cells #[] 38)
              replace row := (Below.heap_alloc y41 (.cells #[] 38) _ (Array.getElem?_eq_some_iff.1 row).1).trans row
              have o_S := syms_lit0 y41 V.heap.size hb.size
              refine hC.out _ _ (fun _ => hSall.out _ hb') ?_
              clear hC C
              try simp only [List.getElem_toArray, List.getElem_cons_zero, List.getElem_cons_succ, Act.put, List.setIfInBounds_toArray, List.set_cons_zero, List.set_cons_succ]
              clear hb
              have hb := hb'
              clear hb'
              generalize y41.alloc (.cells #[] 38) = y42 at *
              generalize y41.heap.size = g42 at *
              refine Ord.Till.two 3 9 (by kernel_rfl) rfl rfl (fun C hC => ?_) (fun C hC => ?_)
              · refine step_syms y42 V.heap.size _ 0 [] o_S hb.size (some ⟨b, o, none⟩) n c w.heap.size xs (h.below (iV.on hb).b) (by omega) (by rfl) _ _ (by rfl) (by rfl) (by rfl) ?_
                intro v43 y43 o_S' hb' ho' hf'
                rw [Nat.zero_add, List.nil_append] at o_S'
                obtain ⟨AS, cS, rfl, _⟩ := o_S'.reads
                clear o_S
                have o_S := o_S'
                replace row := ho' _ _ row (fun _ _ e => by simp at e)
                replace hb := hb.trans hb'
                clear hb' ho' hf' o_S'
                refine hC.out _ _ (fun _ => hSall.out _ hb) ?_
                clear hC C
                try simp only [List.getElem_toArray, List.getElem_cons_zero, List.getElem_cons_succ, Act.put, List.setIfInBounds_toArray, List.set_cons_zero, List.set_cons_succ]
                refine Ord.Till.step 9 (by kernel_rfl) rfl (fun C hC => ?_)
                go_simp
                have hb' := hb.alloc hb.size (.cells #[.string x0, .int .i64 x1, .int .i64 x2, .int .i64 x3] 38)
                have hap : Sls.Apart (.slice (some ⟨y43.heap.size, 0, none⟩) 1 1) _ := fun j hj e => by
                  have h1 := o_S.blk_lt e
                  injection hj with hj
                  have e2 : y43.heap.size = j := hj
                  omega
                replace o_S := o_S.alloc (.cells #[.string x0, .int .i64 x1, .int .i64 x2, .int .i64 x3] 38)
                replace row := (Below.heap_alloc y43 (.cells #[.string x0, .int .i64 x1, .int .i64 x2, .int .i64 x3] 38) _ (Array.getElem?_eq_some_iff.1 row).1).trans row
                have o_T := syms_lit1 y43 V.heap.size x0 x1 x2 x3 hb.size
                refine hC.out _ _ (fun _ => hSall.out _ hb') ?_
                clear hC C
                try simp only [List.getElem_toArray, List.getElem_cons_zero, List.getElem_cons_succ, Act.put, List.setIfInBounds_toArray, List.set_cons_zero, List.set_cons_succ]
                clear hb
                have hb := hb'
                clear hb'
                generalize y43.alloc (.cells #[.string x0, .int .i64 x1, .int .i64 x2, .int .i64 x3] 38) = y44 at *
                generalize y43.heap.size = g44 at *
                refine Ord.Till.step 10 (by kernel_rfl) rfl (fun C hC => ?_)
                obtain ⟨_, _, eT, hrT, _⟩ := o_T.reads
                injection eT with eT1 _ eT3
                subst eT1 eT3
                refine step_syms y44 V.heap.size _ n (scells xs) o_S hb.size _ 1 1 y44.heap.size [⟨x0, x1, x2, x3⟩] (rds_of hrT hx1) (by omega) (by rfl) _ _ (by rfl) (by rfl) (by rfl) ?_
                intro v45 y45 o_S' hb' ho' hf'
                rw [← scells_append] at o_S'
                obtain ⟨AS', cS', rfl, _⟩ := o_S'.reads
                clear o_S hrT
                have o_S := o_S'
                replace row := ho' _ _ row (fun _ _ e => by simp at e)
                replace hb := hb.trans hb'
                clear hb' ho' hf' o_S' o_T hap
                refine hC.out _ _ (fun _ => hSall.out _ hb) ?_
                clear hC C
                try simp only [List.getElem_toArray, List.getElem_cons_zero, List.getElem_cons_succ, Act.put, List.setIfInBounds_toArray, List.set_cons_zero, List.set_cons_succ]
                refine Ord.Till.take' 11 (some 53) (oi := _) (x := ?_) rfl rfl (by kernel_rfl) (by kernel_rfl) (by kernel_rfl) (by kernel_rfl) (fun _ _ _ h => h) (by kernel_rfl) ?_ (hSall.out _ hb) ?_
                rotate_left 1
                · intro v hv; obtain ⟨z0, z1, z2, z3, z4, z5⟩ := hv; go_simp; first | done | with_reducible rfl
                try simp only [Act.put, List.setIfInBounds_toArray, List.set_cons_zero, List.set_cons_succ]
                have k0 := cell_of_row _ _ 0 _ _ _ row
                have k1 := cell_of_row _ _ 1 _ _ _ row
                have kf := fun o => frozen_of_row _ _ o _ _ row
                have row1 := heap_setCell_same _ _ 0 _ _ (.slice AS' (n + 1) cS') row
                have hrz := put2_row row (.slice AS' (n + 1) cS') (.slice none 0 0)
                have hbz := put2_below hb hR (.slice AS' (n + 1) cS') (.slice none 0 0)
                have oSz := (o_S.setc row (by decide) 0 (.slice AS' (n + 1) cS')).setc row1 (by decide) 1 (.slice none 0 0)
                unfold put2 at hrz hbz
                refine Ord.Till.step 13 (by kernel_rfl) rfl (fun C hC => ?_)
                go_simp
                refine hC.out _ _ (fun _ => hSall.out _ hbz) ?_
                clear hC C
                try simp only [List.getElem_toArray, List.getElem_cons_zero, List.getElem_cons_succ, Act.put, List.setIfInBounds_toArray, List.set_cons_zero, List.set_cons_succ]
                refine Ord.Till.done (by kernel_rfl) ?_ _
                clear k0 k1 kf
                go_wp2_with fail
                go_meet
                exact ⟨_, AS', cS', rfl, hrz, hR, oSz, hbz⟩
              · go_simp
                have hb' := hb.alloc hb.size (.cells #[.string x0, .int .i64 x1, .int .i64 x2, .int .i64 x3] 38)
                have hap : Sls.Apart (.slice (some ⟨y42.heap.size, 0, none⟩) 1 1) _ := fun j hj e => by
                  have h1 := o_S.blk_lt e
                  injection hj with hj
                  have e2 : y42.heap.size = j := hj
                  omega
                replace o_S := o_S.alloc (.cells #[.string x0, .int .i64 x1, .int .i64 x2, .int .i64 x3] 38)
                replace row := (Below.heap_alloc y42 (.cells #[.string x0, .int .i64 x1, .int .i64 x2, .int .i64 x3] 38) _ (Array.getElem?_eq_some_iff.1 row).1).trans row
                have o_T := syms_lit1 y42 V.heap.size x0 x1 x2 x3 hb.size
                refine hC.out _ _ (fun _ => hSall.out _ hb') ?_
                clear hC C
                try simp only [List.getElem_toArray, List.getElem_cons_zero, List.getElem_cons_succ, Act.put, List.setIfInBounds_toArray, List.set_cons_zero, List.set_cons_succ]
                clear hb
                have hb := hb'
                clear hb'
                generalize y42.alloc (.cells #[.string x0, .int .i64 x1, .int .i64 x2, .int .i64 x3] 38) = y46 at *
                generalize y42.heap.size = g46 at *
                refine Ord.Till.step 3 (by kernel_rfl) rfl (fun C hC => ?_)
                refine step_syms y46 V.heap.size _ 0 [] o_S hb.size (some ⟨b, o, none⟩) n c w.heap.size xs (h.below (iV.on hb).b) (by omega) (by rfl) _ _ (by rfl) (by rfl) (by rfl) ?_
                intro v47 y47 o_S' hb' ho' hf'
                rw [Nat.zero_add, List.nil_append] at o_S'
                obtain ⟨AS, cS, rfl, _⟩ := o_S'.reads
                have hap1 : Sls.Apart (.slice (some ⟨_, 0, none⟩) 1 1) (.slice AS n cS) := fun j hj e => by
                  rcases hf'.2 j e with h1 | h1
                  · exact hap j hj h1
                  · have h2 := o_T.blk_lt hj
                    omega
                replace o_T := o_T.fr hf' hap
                clear hap
                have hap := hap1
                clear hap1
                clear o_S
                have o_S := o_S'
                replace row := ho' _ _ row (fun _ _ e => by simp at e)
                replace hb := hb.trans hb'
                clear hb' ho' hf' o_S'
                refine hC.out _ _ (fun _ => hSall.out _ hb) ?_
                clear hC C
                try simp only [List.getElem_toArray, List.getElem_cons_zero, List.getElem_cons_succ, Act.put, List.setIfInBounds_toArray, List.set_cons_zero, List.set_cons_succ]
                refine Ord.Till.step 10 (by kernel_rfl) rfl (fun C hC => ?_)
                obtain ⟨_, _, eT, hrT, _⟩ := o_T.reads
                injection eT with eT1 _ eT3
                subst eT1 eT3
                refine step_syms y47 V.heap.size _ n (scells xs) o_S hb.size _ 1 1 y47.heap.size [⟨x0, x1, x2, x3⟩] (rds_of hrT hx1) (by omega) (by rfl) _ _ (by rfl) (by rfl) (by rfl) ?_
                intro v48 y48 o_S' hb' ho' hf'
                rw [← scells_append] at o_S'
                obtain ⟨AS', cS', rfl, _⟩ := o_S'.reads
                clear o_S hrT
                have o_S := o_S'
                replace row := ho' _ _ row (fun _ _ e => by simp at e)
                replace hb := hb.trans hb'
                clear hb' ho' hf' o_S' o_T hap
                refine hC.out _ _ (fun _ => hSall.out _ hb) ?_
                clear hC C
                try simp only [List.getElem_toArray, List.getElem_cons_zero, List.getElem_cons_succ, Act.put, List.setIfInBounds_toArray, List.set_cons_zero, List.set_cons_succ]
                refine Ord.Till.take' 11 (some 53) (oi := _) (x := ?_) rfl rfl (by kernel_rfl) (by kernel_rfl) (by kernel_rfl) (by kernel_rfl) (fun _ _ _ h => h) (by kernel_rfl) ?_ (hSall.out _ hb) ?_
                rotate_left 1
                · intro v hv; obtain ⟨z0, z1, z2, z3, z4, z5⟩ := hv; go_simp; first | done | with_reducible rfl
                try simp only [Act.put, List.setIfInBounds_toArray, List.set_cons_zero, List.set_cons_succ]
                have k0 := cell_of_row _ _ 0 _ _ _ row
                have k1 := cell_of_row _ _ 1 _ _ _ row
                have kf := fun o => frozen_of_row _ _ o _ _ row
                have row1 := heap_setCell_same _ _ 0 _ _ (.slice AS' (n + 1) cS') row
                have hrz := put2_row row (.slice AS' (n + 1) cS') (.slice none 0 0)
                have hbz := put2_below hb hR (.slice AS' (n + 1) cS') (.slice none 0 0)
                have oSz := (o_S.setc row (by decide) 0 (.slice AS' (n + 1) cS')).setc row1 (by decide) 1 (.slice none 0 0)
                unfold put2 at hrz hbz
                refine Ord.Till.step 13 (by kernel_rfl) rfl (fun C hC => ?_)
                go_simp
                refine hC.out _ _ (fun _ => hSall.out _ hbz) ?_
                clear hC C
                try simp only [List.getElem_toArray, List.getElem_cons_zero, List.getElem_cons_succ, Act.put, List.setIfInBounds_toArray, List.set_cons_zero, List.set_cons_succ]
                refine Ord.Till.done (by kernel_rfl) ?_ _
                clear k0 k1 kf
                go_wp2_with fail
                go_meet
                exact ⟨_, AS', cS', rfl, hrz, hR, oSz, hbz⟩
            · go_simp
              have hb' := hb.alloc hb.size (.cells #[.string x0, .int .i64 x1, .int .i64 x2, .int .i64 x3] 38)
              replace row := (Below.heap_alloc y41 (.cells #[.string x0, .int .i64 x1, .int .i64 x2, .int .i64 x3] 38) _ (Array.getElem?_eq_some_iff.1 row).1).trans row
              have o_T := syms_lit1 y41 V.heap.size x0 x1 x2 x3 hb.size
              refine hC.out _ _ (fun _ => hSall.out _ hb') ?_
              clear hC C
              try simp only [List.getElem_toArray, List.getElem_cons_zero, List.getElem_cons_succ, Act.put, List.setIfInBounds_toArray, List.set_cons_zero, List.set_cons_succ]
              clear hb
              have hb := hb'
              clear hb'
              generalize y41.alloc (.cells #[.string x0, .int .i64 x1, .int .i64 x2, .int .i64 x3] 38) = y49 at *
              generalize y41.heap.size = g49 at *
              refine Ord.Till.step 0 (by kernel_rfl) rfl (fun C hC => ?_)
              go_simp
              have hb' := hb.alloc hb.size (.cells #[] 38)
              have hap : Sls.Apart (.slice (some ⟨_, 0, none⟩) 1 1) (.slice (some ⟨y49.heap.size, 0, none⟩) 0 0) := fun j hj e => by
                have h1 := o_T.blk_lt hj
                injection e with e
                have e2 : y49.heap.size = j := e
                omega
              replace o_T := o_T.alloc (.cells #[] 38)
              replace row := (Below.heap_alloc y49 (.cells #[] 38) _ (Array.getElem?_eq_some_iff.1 row).1).trans row
              have o_S := syms_lit0 y49 V.heap.size hb.size
              refine hC.out _ _ (fun _ => hSall.out _ hb') ?_
              clear hC C
              try simp only [List.getElem_toArray, List.getElem_cons_zero, List.getElem_cons_succ, Act.put, List.setIfInBounds_toArray, List.set_cons_zero, List.set_cons_succ]
              clear hb
              have hb := hb'
              clear hb'
              generalize y49.alloc (.cells #[] 38) = y50 at *
              generalize y49.heap.size = g50 at *
              refine Ord.Till.step 3 (by kernel_rfl) rfl (fun C hC => ?_)
              refine step_syms y50 V.heap.size _ 0 [] o_S hb.size (some ⟨b, o, none⟩) n c w.heap.size xs (h.below (iV.on hb).b) (by omega) (by rfl) _ _ (by rfl) (by rfl) (by rfl) ?_
              intro v51 y51 o_S' hb' ho' hf'
              rw [Nat.zero_add, List.nil_append] at o_S'
              obtain ⟨AS, cS, rfl, _⟩ := o_S'.reads
              have hap1 : Sls.Apart (.slice (some ⟨_, 0, none⟩) 1 1) (.slice AS n cS) := fun j hj e => by
                rcases hf'.2 j e with h1 | h1
                · exact hap j hj h1
                · have h2 := o_T.blk_lt hj
                  omega
              replace o_T := o_T.fr hf' hap
              clear hap
              have hap := hap1
              clear hap1
              clear o_S
              have o_S := o_S'
              replace row := ho' _ _ row (fun _ _ e => by simp at e)
              replace hb := hb.trans hb'
              clear hb' ho' hf' o_S'
              refine hC.out _ _ (fun _ => hSall.out _ hb) ?_
              clear hC C
              try simp only [List.getElem_toArray, List.getElem_cons_zero, List.getElem_cons_succ, Act.put, List.setIfInBounds_toArray, List.set_cons_zero, List.set_cons_succ]
              refine Ord.Till.step 10 (by kernel_rfl) rfl (fun C hC => ?_)
              obtain ⟨_, _, eT, hrT, _⟩ := o_T.reads
              injection eT with eT1 _ eT3
              subst eT1 eT3
              refine step_syms y51 V.heap.size _ n (scells xs) o_S hb.size _ 1 1 y51.heap.size [⟨x0, x1, x2, x3⟩] (rds_of hrT hx1) (by omega) (by rfl) _ _ (by rfl) (by rfl) (by rfl) ?_
              intro v52 y52 o_S' hb' ho' hf'
              rw [← scells_append] at o_S'
              obtain ⟨AS', cS', rfl, _⟩ := o_S'.reads
              clear o_S hrT
              have o_S := o_S'
              replace row := ho' _ _ row (fun _ _ e => by simp at e)
              replace hb := hb.trans hb'
              clear hb' ho' hf' o_S' o_T hap
              refine hC.out _ _ (fun _ => hSall.out _ hb) ?_
              clear hC C
              try simp only [List.getElem_toArray, List.getElem_cons_zero, List.getElem_cons_succ, Act.put, List.setIfInBounds_toArray, List.set_cons_zero, List.set_cons_succ]
              refine Ord.Till.take' 11 (some 53) (oi := _) (x := ?_) rfl rfl (by kernel_rfl) (by kernel_rfl) (by kernel_rfl) (by kernel_rfl) (fun _ _ _ h => h) (by kernel_rfl) ?_ (hSall.out _ hb) ?_
              rotate_left 1
              · intro v hv; obtain ⟨z0, z1, z2, z3, z4, z5⟩ := hv; go_simp; first | done | with_reducible rfl
              try simp only [Act.put, List.setIfInBounds_toArray, List.set_cons_zero, List.set_cons_succ]
              have k0 := cell_of_row _ _ 0 _ _ _ row
              have k1 := cell_of_row _ _ 1 _ _ _ row
              have kf := fun o => frozen_of_row _ _ o _ _ row
              have row1 := heap_setCell_same _ _ 0 _ _ (.slice AS' (n + 1) cS') row
              have hrz := put2_row row (.slice AS' (n + 1) cS') (.slice none 0 0)
              have hbz := put2_below hb hR (.slice AS' (n + 1) cS') (.slice none 0 0)
              have oSz := (o_S.setc row (by decide) 0 (.slice AS' (n + 1) cS')).setc row1 (by decide) 1 (.slice none 0 0)
              unfold put2 at hrz hbz
              refine Ord.Till.step 13 (by kernel_rfl) rfl (fun C hC => ?_)
              go_simp
              refine hC.out _ _ (fun _ => hSall.out _ hbz) ?_
              clear hC C
              try simp only [List.getElem_toArray, List.getElem_cons_zero, List.getElem_cons_succ, Act.put, List.setIfInBounds_toArray, List.set_cons_zero, List.set_cons_succ]
              refine Ord.Till.done (by kernel_rfl) ?_ _
              clear k0 k1 kf
              go_wp2_with fail
              go_meet
              exact ⟨_, AS', cS', rfl, hrz, hR, oSz, hbz⟩
        case rest =>
          obtain ⟨g7, A7, c7, rfl, hrow7, hg7, oS, hb7⟩ := hcut
          have i7 := iV.on hb7
          have hrow6 := (hb7.block g6 hg6V).trans hrow6
          obtain ⟨_, _, eS, hrS, hc7, _⟩ := oS.reads
          injection eS with eS1 _ eS3
          subst eS1 eS3
          have hnm : ∀ y ∈ xs ++ [⟨x0, x1, x2, x3⟩], y.name.size ≤ maxLen := fun y hy => by
            rcases List.mem_append.1 hy with hy | hy
            · have := k3 y hy; unfold maxLen; omega
            · exact hx1 y hy
          have hs7 := rds_of hrS hnm
          have hR7 : Hid (∀ W, Below wc.heap.size wc W → Rs w b o n c k B m d x0 x1 x2 x3 W) := hid fun W hW => hSall.out W (hb7.trans (hW.mono hb7.size))
          have HF : Hid (∀ W, Below wc.heap.size wc W → Calls Try.prog 14 #[.agg #[.slice (some ⟨b, o, none⟩) n c, .slice B m d], .string x0] W fun e W' => e = .returned (.tuple #[.agg #[.string x0, .int .i64 x1, .int .i64 x2, .int .i64 x3], .bool true]) ∧ Below W.heap.size W W') := hid fun W hW => by
            have i := i7.on hW
            have q := find_any w.heap.size (some ⟨b, o, none⟩) B n c m d xs x0 W (h.below i.b) i.b.size (by omega)
            rw [Hfind.out.1, Hfind.out.2] at q
            exact q
          have hg6c : g6 < wc.heap.size := (Array.getElem?_eq_some_iff.1 hrow6).1
          have hg7c : g7 < wc.heap.size := (Array.getElem?_eq_some_iff.1 hrow7).1
          clear hSall hrS oS
          go_upto_region 6 with fail
          go_cut [8, 9] from 54 to 64 (fun s8 s9 wx => ∃ g, s8 = .pointer (some ⟨g, 0, none⟩) ∧ s9 = .bool true ∧ wx.heap[g]? = some (.cells #[.string x0, .int .i64 x1, .int .i64 x2, .int .i64 x3] 38 (0, 0)) ∧ Below wc.heap.size wc wx)
          case first =>
            clear hrow6 hrow7 hs7 hcell
            refine Ord.Till.begin (fun W => Rs w b o n c k B m d x0 x1 x2 x3 W) 60 (by kernel_rfl) ?_
            have hb : Below wc.heap.size wc wc.drew := (Below.refl _ _).drew
            generalize wc.drew = y0 at *
            refine Ord.Till.take' 0 (some 55) (oi := _) (x := ?_) rfl rfl (by kernel_rfl) (by kernel_rfl) (by kernel_rfl) (by kernel_rfl) (fun _ _ _ h => h) (by kernel_rfl) ?_ (hR7.out _ hb) ?_
            rotate_left 1
            · intro v hv; obtain ⟨z0, z1, z2, z3, z4, z5⟩ := hv; go_simp; first | done | with_reducible rfl
            try simp only [Act.put, List.setIfInBounds_toArray, List.set_cons_zero, List.set_cons_succ]
            refine Ord.Till.take' 1 (some 56) (oi := _) (x := ?_) rfl rfl (by kernel_rfl) (by kernel_rfl) (by kernel_rfl) (by kernel_rfl) (fun _ _ _ h => h) (by kernel_rfl) ?_ (hR7.out _ hb) ?_
            rotate_left 1
            · intro v hv; obtain ⟨z0, z1, z2, z3, z4, z5⟩ := hv; go_simp; first | done | with_reducible rfl
            try simp only [Act.put, List.setIfInBounds_toArray, List.set_cons_zero, List.set_cons_succ]
            refine Ord.Till.take' 2 (some 57) (oi := _) (x := ?_) rfl rfl (by kernel_rfl) (by kernel_rfl) (by kernel_rfl) (by kernel_rfl) (fun _ _ _ h => h) (by kernel_rfl) ?_ (hR7.out _ hb) ?_
            rotate_left 1
            · intro v hv; obtain ⟨z0, z1, z2, z3, z4, z5⟩ := hv; go_simp; first | done | with_reducible rfl
            try simp only [Act.put, List.setIfInBounds_toArray, List.set_cons_zero, List.set_cons_succ]
            refine Ord.Till.take' 3 (some 58) (oi := _) (x := ?_) rfl rfl (by kernel_rfl) (by kernel_rfl) (by kernel_rfl) (by kernel_rfl) (fun _ _ _ h => h) (by kernel_rfl) ?_ (hR7.out _ hb) ?_
            rotate_left 1
            · intro v hv; obtain ⟨z0, z1, z2, z3, z4, z5⟩ := hv; go_simp; first | done | with_reducible rfl
            try simp only [Act.put, List.setIfInBounds_toArray, List.set_cons_zero, List.set_cons_succ]
            refine Ord.Till.take' 4 (some 59) (oi := _) (x := ?_) rfl rfl (by kernel_rfl) (by kernel_rfl) (by kernel_rfl) (by kernel_rfl) (fun _ _ _ h => h) (by kernel_rfl) ?_ (hR7.out _ hb) ?_
            rotate_left 1
            · intro v hv; obtain ⟨z0, z1, z2, z3, z4, z5⟩ := hv; go_simp; first | done | with_reducible rfl
            try simp only [Act.put, List.setIfInBounds_toArray, List.set_cons_zero, List.set_cons_succ]
            refine Ord.Till.take' 5 (some 60) (oi := _) (x := ?_) rfl rfl (by kernel_rfl) (by kernel_rfl) (by kernel_rfl) (by kernel_rfl) (fun _ _ _ h => h) (by kernel_rfl) ?_ (hR7.out _ hb) ?_
            rotate_left 1
            · intro v hv; obtain ⟨z0, z1, z2, z3, z4, z5⟩ := hv; go_simp; first | done | with_reducible rfl
            try simp only [Act.put, List.setIfInBounds_toArray, List.set_cons_zero, List.set_cons_succ]
            refine Ord.Till.take' 6 (some 61) (oi := _) (x := ?_) rfl rfl (by kernel_rfl) (by kernel_rfl) (by kernel_rfl) (by kernel_rfl) (fun _ _ _ h => h) (by kernel_rfl) ?_ (hR7.out _ hb) ?_
            rotate_left 1
            · intro v hv; obtain ⟨z0, z1, z2, z3, z4, z5⟩ := hv; go_simp; first | done | with_reducible rfl
            try simp only [Act.put, List.setIfInBounds_toArray, List.set_cons_zero, List.set_cons_succ]
            refine Ord.Till.two 7 11 (by kernel_rfl) rfl rfl (fun C hC => ?_) (fun C hC => ?_)
            · go_simp
              go_at_call 14
              refine (HF.out _ hb).mono ?_
              rintro e z1 ⟨rfl, hz1⟩
              replace hb := hb.trans (hz1.mono hb.size)
              clear hz1
              refine hC.out _ _ (fun _ => hR7.out _ hb) ?_
              clear hC C
              try simp only [List.getElem_toArray, List.getElem_cons_zero, List.getElem_cons_succ, Act.put, List.setIfInBounds_toArray, List.set_cons_zero, List.set_cons_succ]
              refine Ord.Till.take' 8 (some 54) (oi := _) (x := ?_) rfl rfl (by kernel_rfl) (by kernel_rfl) (by kernel_rfl) (by kernel_rfl) (fun _ _ _ h => h) (by kernel_rfl) ?_ (hR7.out _ hb) ?_
              rotate_left 1
              · intro v hv; obtain ⟨z0, z1, z2, z3, z4, z5⟩ := hv; go_simp; first | done | with_reducible rfl
              try simp only [Act.put, List.setIfInBounds_toArray, List.set_cons_zero, List.set_cons_succ]
              refine Ord.Till.take' 9 (some 63) (oi := _) (x := ?_) rfl rfl (by kernel_rfl) (by kernel_rfl) (by kernel_rfl) (by kernel_rfl) (fun _ _ _ h => h) (by kernel_rfl) ?_ (hR7.out _ hb) ?_
              rotate_left 1
              · intro v hv; obtain ⟨z0, z1, z2, z3, z4, z5⟩ := hv; go_simp; first | done | with_reducible rfl
              try simp only [Act.put, List.setIfInBounds_toArray, List.set_cons_zero, List.set_cons_succ]
              refine Ord.Till.take' 10 (some 64) (oi := _) (x := ?_) rfl rfl (by kernel_rfl) (by kernel_rfl) (by kernel_rfl) (by kernel_rfl) (fun _ _ _ h => h) (by kernel_rfl) ?_ (hR7.out _ hb) ?_
              rotate_left 1
              · intro v hv; obtain ⟨z0, z1, z2, z3, z4, z5⟩ := hv; go_simp; first | done | with_reducible rfl
              try simp only [Act.put, List.setIfInBounds_toArray, List.set_cons_zero, List.set_cons_succ]
              refine Ord.Till.step 11 (by kernel_rfl) rfl (fun C hC => ?_)
              go_simp
              have hb' := hb.alloc hb.size (.cells #[.string ⟨#[]⟩, .int .i64 0, .int .i64 0, .int .i64 0] 38)
              have row := heap_alloc_new z1 (.cells #[.string ⟨#[]⟩, .int .i64 0, .int .i64 0, .int .i64 0] 38)
              have hR := hb.size
              refine hC.out _ _ (fun _ => hR7.out _ hb') ?_
              clear hC C
              try simp only [List.getElem_toArray, List.getElem_cons_zero, List.getElem_cons_succ, Act.put, List.setIfInBounds_toArray, List.set_cons_zero, List.set_cons_succ]
              clear hb
              have hb := hb'
              clear hb'
              generalize z1.alloc (.cells #[.string ⟨#[]⟩, .int .i64 0, .int .i64 0, .int .i64 0] 38) = z2 at *
              generalize z1.heap.size = g8 at *
              have k0 := cell_of_row _ _ 0 _ _ _ row
              have k1' := cell_of_row _ _ 1 _ _ _ row
              have k2' := cell_of_row _ _ 2 _ _ _ row
              have k3' := cell_of_row _ _ 3 _ _ _ row
              have kf := fun o => frozen_of_row _ _ o _ _ row
              have hrz := put4_row row (.string x0) (.int .i64 x1) (.int .i64 x2) (.int .i64 x3)
              have hbz := put4_below hb hR (.string x0) (.int .i64 x1) (.int .i64 x2) (.int .i64 x3)
              unfold put4 at hrz hbz
              refine Ord.Till.step 12 (by kernel_rfl) rfl (fun C hC => ?_)
              go_simp
              refine hC.out _ _ (fun _ => hR7.out _ hbz) ?_
              clear hC C
              try simp only [List.getElem_toArray, List.getElem_cons_zero, List.getElem_cons_succ, Act.put, List.setIfInBounds_toArray, List.set_cons_zero, List.set_cons_succ]
              refine Ord.Till.take' 13 (some 9) (oi := _) (x := ?_) rfl rfl (by kernel_rfl) (by kernel_rfl) (by kernel_rfl) (by kernel_rfl) (fun _ _ _ h => h) (by kernel_rfl) ?_ (hR7.out _ hbz) ?_
              rotate_left 1
              · intro v hv; obtain ⟨z0, z1, z2, z3, z4, z5⟩ := hv; go_simp; first | done | with_reducible rfl
              try simp only [Act.put, List.setIfInBounds_toArray, List.set_cons_zero, List.set_cons_succ]
              refine Ord.Till.done (by kernel_rfl) ?_ _
              clear k0 k1' k2' k3' kf
              go_wp2_with fail
              go_meet
              exact ⟨_, rfl, rfl, hrz, hbz⟩
            · go_simp
              have hb' := hb.alloc hb.size (.cells #[.string ⟨#[]⟩, .int .i64 0, .int .i64 0, .int .i64 0] 38)
              have row := heap_alloc_new y0 (.cells #[.string ⟨#[]⟩, .int .i64 0, .int .i64 0, .int .i64 0] 38)
              have hR := hb.size
              refine hC.out _ _ (fun _ => hR7.out _ hb') ?_
              clear hC C
              try simp only [List.getElem_toArray, List.getElem_cons_zero, List.getElem_cons_succ, Act.put, List.setIfInBounds_toArray, List.set_cons_zero, List.set_cons_succ]
              clear hb
              have hb := hb'
              clear hb'
              generalize y0.alloc (.cells #[.string ⟨#[]⟩, .int .i64 0, .int .i64 0, .int .i64 0] 38) = z0 at *
              generalize y0.heap.size = g8 at *
              refine Ord.Till.step 7 (by kernel_rfl) rfl (fun C hC => ?_)
              go_simp
              go_at_call 14
              refine (HF.out _ hb).mono ?_
              rintro e z1 ⟨rfl, hz1⟩
              replace row := (hz1.block _ (Array.getElem?_eq_some_iff.1 row).1).trans row
              replace hb := hb.trans (hz1.mono hb.size)
              clear hz1
              refine hC.out _ _ (fun _ => hR7.out _ hb) ?_
              clear hC C
              try simp only [List.getElem_toArray, List.getElem_cons_zero, List.getElem_cons_succ, Act.put, List.setIfInBounds_toArray, List.set_cons_zero, List.set_cons_succ]
              refine Ord.Till.take' 8 (some 54) (oi := _) (x := ?_) rfl rfl (by kernel_rfl) (by kernel_rfl) (by kernel_rfl) (by kernel_rfl) (fun _ _ _ h => h) (by kernel_rfl) ?_ (hR7.out _ hb) ?_
              rotate_left 1
              · intro v hv; obtain ⟨z0, z1, z2, z3, z4, z5⟩ := hv; go_simp; first | done | with_reducible rfl
              try simp only [Act.put, List.setIfInBounds_toArray, List.set_cons_zero, List.set_cons_succ]
              refine Ord.Till.take' 9 (some 63) (oi := _) (x := ?_) rfl rfl (by kernel_rfl) (by kernel_rfl) (by kernel_rfl) (by kernel_rfl) (fun _ _ _ h => h) (by kernel_rfl) ?_ (hR7.out _ hb) ?_
              rotate_left 1
              · intro v hv; obtain ⟨z0, z1, z2, z3, z4, z5⟩ := hv; go_simp; first | done | with_reducible rfl
              try simp only [Act.put, List.setIfInBounds_toArray, List.set_cons_zero, List.set_cons_succ]
              refine Ord.Till.take' 10 (some 64) (oi := _) (x := ?_) rfl rfl (by kernel_rfl) (by kernel_rfl) (by kernel_rfl) (by kernel_rfl) (fun _ _ _ h => h) (by kernel_rfl) ?_ (hR7.out _ hb) ?_
              rotate_left 1
              · intro v hv; obtain ⟨z0, z1, z2, z3, z4, z5⟩ := hv; go_simp; first | done | with_reducible rfl
              try simp only [Act.put, List.setIfInBounds_toArray, List.set_cons_zero, List.set_cons_succ]
              have k0 := cell_of_row _ _ 0 _ _ _ row
              have k1' := cell_of_row _ _ 1 _ _ _ row
              have k2' := cell_of_row _ _ 2 _ _ _ row
              have k3' := cell_of_row _ _ 3 _ _ _ row
              have kf := fun o => frozen_of_row _ _ o _ _ row
              have hrz := put4_row row (.string x0) (.int .i64 x1) (.int .i64 x2) (.int .i64 x3)
              have hbz := put4_below hb hR (.string x0) (.int .i64 x1) (.int .i64 x2) (.int .i64 x3)
              unfold put4 at hrz hbz
              refine Ord.Till.step 12 (by kernel_rfl) rfl (fun C hC => ?_)
              go_simp
              refine hC.out _ _ (fun _ => hR7.out _ hbz) ?_
              clear hC C
              try simp only [List.getElem_toArray, List.getElem_cons_zero, List.getElem_cons_succ, Act.put, List.setIfInBounds_toArray, List.set_cons_zero, List.set_cons_succ]
              refine Ord.Till.take' 13 (some 9) (oi := _) (x := ?_) rfl rfl (by kernel_rfl) (by kernel_rfl) (by kernel_rfl) (by kernel_rfl) (fun _ _ _ h => h) (by kernel_rfl) ?_ (hR7.out _ hbz) ?_
              rotate_left 1
              · intro v hv; obtain ⟨z0, z1, z2, z3, z4, z5⟩ := hv; go_simp; first | done | with_reducible rfl
              try simp only [Act.put, List.setIfInBounds_toArray, List.set_cons_zero, List.set_cons_succ]
              refine Ord.Till.done (by kernel_rfl) ?_ _
              clear k0 k1' k2' k3' kf
              go_wp2_with fail
              go_meet
              exact ⟨_, rfl, rfl, hrz, hbz⟩
          case rest =>
            obtain ⟨g8, rfl, rfl, hrow8, hb8⟩ := hcut
            have hrow6 := (hb8.block g6 hg6c).trans hrow6
            have hrow7 := (hb8.block g7 hg7c).trans hrow7
            have i8 := i7.on hb8
            have hs8 := hs7.below hb8
            have hcw := hb8.size
            go_upto_region 7 with fail
            generalize wc = w8 at *
            have H1 : Hid (∀ W, Below w8.heap.size w8 W → Calls Try.prog 17 #[.agg #[.slice (some ⟨b, o, none⟩) k c, .slice B m d]] W fun e W' => e = .returned (.bool true) ∧ Below W.heap.size W W') := hid fun W hW => by
              have i := i8.on hW
              have q := valid_any w.heap.size (some ⟨b, o, none⟩) B k c m d (xs.take k) W ((h.pre (Nat.le_of_lt hkn)).below i.b) i.b.size
              rw [Htk.out] at q
              exact q
            have H2 : Hid (∀ W, Below w8.heap.size w8 W → Calls Try.prog 17 #[.agg #[.slice A7 (n + 1) c7, .slice none 0 0]] W fun e W' => e = .returned (.bool false) ∧ Below W.heap.size W W') := hid fun W hW => by
              have q := valid_any _ A7 none (n + 1) c7 0 0 _ W (hs8.below (hW.mono hcw)) (Nat.le_trans hcw hW.size)
              rw [Htw.out] at q
              exact q
            have hS8 : Hid (∀ W, Below w8.heap.size w8 W → Rs w b o n c k B m d x0 x1 x2 x3 W ∧ Fi g6 g7 g8 ⟨b, o, none⟩ k c B m d A7 (n + 1) c7 x0 x1 x2 x3 W) := hid fun W hW => by
              have i := i8.on hW
              obtain ⟨y0, y1, y2, y3⟩ := hcell.below i.b hbK
              have a := (hW.block g6 (Array.getElem?_eq_some_iff.1 hrow6).1).trans hrow6
              have t := (hW.block g7 (Array.getElem?_eq_some_iff.1 hrow7).1).trans hrow7
              have f := (hW.block g8 (Array.getElem?_eq_some_iff.1 hrow8).1).trans hrow8
              exact ⟨⟨i.c0, i.c1, y0, y1, y2, y3⟩, ⟨cell_of_row _ _ 0 _ _ _ a, cell_of_row _ _ 1 _ _ _ a, cell_of_row _ _ 0 _ _ _ t, cell_of_row _ _ 1 _ _ _ t, cell_of_row _ _ 0 _ _ _ f, cell_of_row _ _ 1 _ _ _ f, cell_of_row _ _ 2 _ _ _ f, cell_of_row _ _ 3 _ _ _ f⟩⟩
            have gs' := fun w => guard_sym .eql (.tmp 76) (.tmp 81) #[.string x0, .int .i64 x1, .int .i64 x2, .int .i64 x3] #[.string x0, .int .i64 x1, .int .i64 x2, .int .i64 x3] w
            have es' := fun w => eql_self x0 x1 x2 x3 w
            have hb : Below w8.heap.size w8 w8.drew := (Below.refl _ _).drew
            clear hrow6 hrow7 hrow8 hs8 hcell hR7 HF
            refine Ord.Till.begin (fun W => Rs w b o n c k B m d x0 x1 x2 x3 W ∧ Fi g6 g7 g8 ⟨b, o, none⟩ k c B m d A7 (n + 1) c7 x0 x1 x2 x3 W) 60 (by kernel_rfl) ?_
            generalize w8.drew = y0 at *
            refine Ord.Till.take' 0 (some 65) (oi := _) (x := ?_) rfl rfl (by kernel_rfl) (by kernel_rfl) (by kernel_rfl) (by kernel_rfl) (fun _ _ _ h => h) (by kernel_rfl) ?_ (hS8.out _ hb) ?_
            rotate_left 1
            · intro v hv; obtain ⟨⟨z0, z1, z2, z3, z4, z5⟩, ⟨r0, r1, r2, r3, r4, r5, r6, r7⟩⟩ := hv; go_simp; first | done | with_reducible rfl
            try simp only [Act.put, List.setIfInBounds_toArray, List.set_cons_zero, List.set_cons_succ]
            refine Ord.Till.step 1 (by kernel_rfl) rfl (fun C hC => ?_)
            go_simp
            go_at_call 17
            refine (H1.out _ hb).mono ?_
            rintro e z1 ⟨rfl, hz1⟩
            replace hb := hb.trans (hz1.mono hb.size)
            clear hz1
            refine hC.out _ _ (fun _ => hS8.out _ hb) ?_
            clear hC C
            try simp only [List.getElem_toArray, List.getElem_cons_zero, List.getElem_cons_succ, Act.put, List.setIfInBounds_toArray, List.set_cons_zero, List.set_cons_succ]
            refine Ord.Till.take' 2 (some 67) (oi := _) (x := ?_) rfl rfl (by kernel_rfl) (by kernel_rfl) (by kernel_rfl) (by kernel_rfl) (fun _ _ _ h => h) (by kernel_rfl) ?_ (hS8.out _ hb) ?_
            rotate_left 1
            · intro v hv; obtain ⟨⟨z0, z1, z2, z3, z4, z5⟩, ⟨r0, r1, r2, r3, r4, r5, r6, r7⟩⟩ := hv; go_simp; first | done | with_reducible rfl
            try simp only [Act.put, List.setIfInBounds_toArray, List.set_cons_zero, List.set_cons_succ]
            refine Ord.Till.take' 3 (some 68) (oi := _) (x := ?_) rfl rfl (by kernel_rfl) (by kernel_rfl) (by kernel_rfl) (by kernel_rfl) (fun _ _ _ h => h) (by kernel_rfl) ?_ (hS8.out _ hb) ?_
            rotate_left 1
            · intro v hv; obtain ⟨⟨z0, z1, z2, z3, z4, z5⟩, ⟨r0, r1, r2, r3, r4, r5, r6, r7⟩⟩ := hv; go_simp; first | done | with_reducible rfl
            try simp only [Act.put, List.setIfInBounds_toArray, List.set_cons_zero, List.set_cons_succ]
            refine Ord.Till.step 4 (by kernel_rfl) rfl (fun C hC => ?_)
            go_simp
            go_at_call 17
            refine (H2.out _ hb).mono ?_
            rintro e z4 ⟨rfl, hz1⟩
            replace hb := hb.trans (hz1.mono hb.size)
            clear hz1
            refine hC.out _ _ (fun _ => hS8.out _ hb) ?_
            clear hC C
            try simp only [List.getElem_toArray, List.getElem_cons_zero, List.getElem_cons_succ, Act.put, List.setIfInBounds_toArray, List.set_cons_zero, List.set_cons_succ]
            refine Ord.Till.take' 5 (some 70) (oi := _) (x := ?_) rfl rfl (by kernel_rfl) (by kernel_rfl) (by kernel_rfl) (by kernel_rfl) (fun _ _ _ h => h) (by kernel_rfl) ?_ (hS8.out _ hb) ?_
            rotate_left 1
            · intro v hv; obtain ⟨⟨z0, z1, z2, z3, z4, z5⟩, ⟨r0, r1, r2, r3, r4, r5, r6, r7⟩⟩ := hv; go_simp; first | done | with_reducible rfl
            try simp only [Act.put, List.setIfInBounds_toArray, List.set_cons_zero, List.set_cons_succ]
            refine Ord.Till.take' 6 (some 71) (oi := _) (x := ?_) rfl rfl (by kernel_rfl) (by kernel_rfl) (by kernel_rfl) (by kernel_rfl) (fun _ _ _ h => h) (by kernel_rfl) ?_ (hS8.out _ hb) ?_
            rotate_left 1
            · intro v hv; obtain ⟨⟨z0, z1, z2, z3, z4, z5⟩, ⟨r0, r1, r2, r3, r4, r5, r6, r7⟩⟩ := hv; go_simp; first | done | with_reducible rfl
            try simp only [Act.put, List.setIfInBounds_toArray, List.set_cons_zero, List.set_cons_succ]
            refine Ord.Till.take' 7 (some 72) (oi := _) (x := ?_) rfl rfl (by kernel_rfl) (by kernel_rfl) (by kernel_rfl) (by kernel_rfl) (fun _ _ _ h => h) (by kernel_rfl) ?_ (hS8.out _ hb) ?_
            rotate_left 1
            · intro v hv; obtain ⟨⟨z0, z1, z2, z3, z4, z5⟩, ⟨r0, r1, r2, r3, r4, r5, r6, r7⟩⟩ := hv; go_simp; first | done | with_reducible rfl
            try simp only [Act.put, List.setIfInBounds_toArray, List.set_cons_zero, List.set_cons_succ]
            refine Ord.Till.take' 8 (some 73) (oi := _) (x := ?_) rfl rfl (by kernel_rfl) (by kernel_rfl) (by kernel_rfl) (by kernel_rfl) (fun _ _ _ h => h) (by kernel_rfl) ?_ (hS8.out _ hb) ?_
            rotate_left 1
            · intro v hv; obtain ⟨⟨z0, z1, z2, z3, z4, z5⟩, ⟨r0, r1, r2, r3, r4, r5, r6, r7⟩⟩ := hv; go_simp; first | done | with_reducible rfl
            try simp only [Act.put, List.setIfInBounds_toArray, List.set_cons_zero, List.set_cons_succ]
            refine Ord.Till.take' 9 (some 74) (oi := _) (x := ?_) rfl rfl (by kernel_rfl) (by kernel_rfl) (by kernel_rfl) (by kernel_rfl) (fun _ _ _ h => h) (by kernel_rfl) ?_ (hS8.out _ hb) ?_
            rotate_left 1
            · intro v hv; obtain ⟨⟨z0, z1, z2, z3, z4, z5⟩, ⟨r0, r1, r2, r3, r4, r5, r6, r7⟩⟩ := hv; go_simp; first | done | with_reducible rfl
            try simp only [Act.put, List.setIfInBounds_toArray, List.set_cons_zero, List.set_cons_succ]
            refine Ord.Till.take' 10 (some 75) (oi := _) (x := ?_) rfl rfl (by kernel_rfl) (by kernel_rfl) (by kernel_rfl) (by kernel_rfl) (fun _ _ _ h => h) (by kernel_rfl) ?_ (hS8.out _ hb) ?_
            rotate_left 1
            · intro v hv; obtain ⟨⟨z0, z1, z2, z3, z4, z5⟩, ⟨r0, r1, r2, r3, r4, r5, r6, r7⟩⟩ := hv; go_simp; first | done | with_reducible rfl
            try simp only [Act.put, List.setIfInBounds_toArray, List.set_cons_zero, List.set_cons_succ]
            refine Ord.Till.take' 11 (some 76) (oi := _) (x := ?_) rfl rfl (by kernel_rfl) (by kernel_rfl) (by kernel_rfl) (by kernel_rfl) (fun _ _ _ h => h) (by kernel_rfl) ?_ (hS8.out _ hb) ?_
            rotate_left 1
            · intro v hv; obtain ⟨⟨z0, z1, z2, z3, z4, z5⟩, ⟨r0, r1, r2, r3, r4, r5, r6, r7⟩⟩ := hv; go_simp; first | done | with_reducible rfl
            try simp only [Act.put, List.setIfInBounds_toArray, List.set_cons_zero, List.set_cons_succ]
            refine Ord.Till.take' 12 (some 77) (oi := _) (x := ?_) rfl rfl (by kernel_rfl) (by kernel_rfl) (by kernel_rfl) (by kernel_rfl) (fun _ _ _ h => h) (by kernel_rfl) ?_ (hS8.out _ hb) ?_
            rotate_left 1
            · intro v hv; obtain ⟨⟨z0, z1, z2, z3, z4, z5⟩, ⟨r0, r1, r2, r3, r4, r5, r6, r7⟩⟩ := hv; go_simp; first | done | with_reducible rfl
            try simp only [Act.put, List.setIfInBounds_toArray, List.set_cons_zero, List.set_cons_succ]
            refine Ord.Till.take' 13 (some 78) (oi := _) (x := ?_) rfl rfl (by kernel_rfl) (by kernel_rfl) (by kernel_rfl) (by kernel_rfl) (fun _ _ _ h => h) (by kernel_rfl) ?_ (hS8.out _ hb) ?_
            rotate_left 1
            · intro v hv; obtain ⟨⟨z0, z1, z2, z3, z4, z5⟩, ⟨r0, r1, r2, r3, r4, r5, r6, r7⟩⟩ := hv; go_simp; first | done | with_reducible rfl
            try simp only [Act.put, List.setIfInBounds_toArray, List.set_cons_zero, List.set_cons_succ]
            refine Ord.Till.take' 14 (some 79) (oi := _) (x := ?_) rfl rfl (by kernel_rfl) (by kernel_rfl) (by kernel_rfl) (by kernel_rfl) (fun _ _ _ h => h) (by kernel_rfl) ?_ (hS8.out _ hb) ?_
            rotate_left 1
            · intro v hv; obtain ⟨⟨z0, z1, z2, z3, z4, z5⟩, ⟨r0, r1, r2, r3, r4, r5, r6, r7⟩⟩ := hv; go_simp; first | done | with_reducible rfl
            try simp only [Act.put, List.setIfInBounds_toArray, List.set_cons_zero, List.set_cons_succ]
            refine Ord.Till.take' 15 (some 80) (oi := _) (x := ?_) rfl rfl (by kernel_rfl) (by kernel_rfl) (by kernel_rfl) (by kernel_rfl) (fun _ _ _ h => h) (by kernel_rfl) ?_ (hS8.out _ hb) ?_
            rotate_left 1
            · intro v hv; obtain ⟨⟨z0, z1, z2, z3, z4, z5⟩, ⟨r0, r1, r2, r3, r4, r5, r6, r7⟩⟩ := hv; go_simp; first | done | with_reducible rfl
            try simp only [Act.put, List.setIfInBounds_toArray, List.set_cons_zero, List.set_cons_succ]
            refine Ord.Till.take' 16 (some 81) (oi := _) (x := ?_) rfl rfl (by kernel_rfl) (by kernel_rfl) (by kernel_rfl) (by kernel_rfl) (fun _ _ _ h => h) (by kernel_rfl) ?_ (hS8.out _ hb) ?_
            rotate_left 1
            · intro v hv; obtain ⟨⟨z0, z1, z2, z3, z4, z5⟩, ⟨r0, r1, r2, r3, r4, r5, r6, r7⟩⟩ := hv; go_simp; first | done | with_reducible rfl
            try simp only [Act.put, List.setIfInBounds_toArray, List.set_cons_zero, List.set_cons_succ]
            refine Ord.Till.take' 17 (some 82) (oi := _) (x := ?_) rfl rfl (by kernel_rfl) (by kernel_rfl) (by kernel_rfl) (by kernel_rfl) (fun _ _ _ h => h) (by kernel_rfl) ?_ (hS8.out _ hb) ?_
            rotate_left 1
            · intro v hv; obtain ⟨⟨z0, z1, z2, z3, z4, z5⟩, ⟨r0, r1, r2, r3, r4, r5, r6, r7⟩⟩ := hv; go_simp; first | done | with_reducible rfl
            try simp only [Act.put, List.setIfInBounds_toArray, List.set_cons_zero, List.set_cons_succ]
            refine Ord.Till.take' 18 (some 83) (oi := _) (x := ?_) rfl rfl (by kernel_rfl) (by kernel_rfl) (by kernel_rfl) (by kernel_rfl) (fun _ _ _ h => h) (by kernel_rfl) ?_ (hS8.out _ hb) ?_
            rotate_left 1
            · intro v hv; obtain ⟨⟨z0, z1, z2, z3, z4, z5⟩, ⟨r0, r1, r2, r3, r4, r5, r6, r7⟩⟩ := hv; go_simp; first | done | with_reducible rfl
            try simp only [Act.put, List.setIfInBounds_toArray, List.set_cons_zero, List.set_cons_succ]
            refine Ord.Till.take' 19 (some 4) (oi := _) (x := ?_) rfl rfl (by kernel_rfl) (by kernel_rfl) (by kernel_rfl) (by kernel_rfl) (fun _ _ _ h => h) (by kernel_rfl) ?_ (hS8.out _ hb) ?_
            rotate_left 1
            · intro v hv; obtain ⟨⟨z0, z1, z2, z3, z4, z5⟩, ⟨r0, r1, r2, r3, r4, r5, r6, r7⟩⟩ := hv; go_simp; first | done | with_reducible rfl
            try simp only [Act.put, List.setIfInBounds_toArray, List.set_cons_zero, List.set_cons_succ]
            refine Ord.Till.done (by kernel_rfl) ?_ _
            go_wp2_with fail
            go_ret
            exact ⟨rfl, (i8.on hb).b⟩

set_option maxRecDepth 100000 in
theorem proved : Rows.ObjsymPrefixSaid :=
  OpenClaim.holds_of_wide 6 Try.f6 rfl rfl rfl rfl rfl rfl rfl ⟨rfl, rfl, rfl, rfl, rfl⟩ rfl rfl rfl rfl rfl (by kernel_rfl) Try.func6 (by kernel_rfl)
    (of_decide_eq_true (by kernel_rfl)) (by unfold Func.isWrapper; rw [if_neg (of_decide_eq_false (by kernel_rfl))]; exact ⟨rfl, rfl⟩)
    (fun os started H enc _ => lifted (started := started) (s := Rows.objsymPrefixSpec) rfl
      (fun ds h => by match ds, h with | [_, _], _ => rfl) (by kernel_rfl)
      (by kernel_rfl) (by kernel_rfl) Try.func6
      (ChangeSpec.witness6 (enc := enc) (C := Try.checked) false ⟨#[], #[.agg #[.slice none 0 0, .slice none 0 0], .int .u8 0], []⟩ 8 (by kernel_rfl) (by kernel_rfl) (by kernel_rfl) (by kernel_rfl))
      (fun W base args ds p h => by
        obtain ⟨hval, hA, _⟩ := h
        rw [show Try.f6.params = #[25, 5] from by kernel_rfl] at hA hval
        obtain ⟨v0, vs0, d0, ds0, p0, q0, hargs, rfl, rfl, k0, r0⟩ := trodAll_cons hA
        obtain ⟨v1, vs1, d1, ds1, p1, q1, rfl, rfl, rfl, k1, r1⟩ := trodAll_cons r0
        obtain ⟨rfl, rfl, rfl⟩ := trodAll_nil r1
        obtain rfl : args = #[v0, v1] := by cases args; simp_all
        obtain ⟨A0, n0, c0, B0, m0, e0, l0, b0, rfl, h0, g0, i0, j0, s0, t0⟩ := open_obj (hval 0 _ v0 rfl rfl) k0
        obtain ⟨a1, rfl, u1⟩ := open_u8 (hval 1 _ v1 rfl rfl) k1
        exact walk W A0 n0 c0 B0 m0 e0 l0 b0 h0 g0 i0 j0 s0 t0 a1 u1))
#print axioms proved
end Go.Proofs.Ytkacndinjomifaa.Prefix
