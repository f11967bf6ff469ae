/-
  ObjsymMatchesReference: for all objects, bytes and names, all functions return what the reference implementation returns. No condition.
-/
import Derived.Test.YtkacndinjomifaaOr
import Derived.Test.YtkacndinjomifaaOs
namespace Go.Proofs.Ytkacndinjomifaa.Matches
open Go.ChangeShapes Go.WideShapes Go.ChangeAt Go.RowKit Go.Proofs Go.Proofs.Ytkacndinjomifaa.Byt Go.Proofs.Ytkacndinjomifaa.Obj Go.Proofs.Ytkacndinjomifaa.Frame

def encZ (xs : List Sy) : Int := if validO xs then 0 else 12
def encB (xs : List Sy) (body : List UInt8) : List UInt8 := if validO xs then encO xs body else []
theorem enc_form {xs : List Sy} {body : List UInt8} {w w' : World} {e : Ending} (h : Encodes xs body w e w') :
    ∃ A n c, e = .returned (.tuple #[.slice A n c, .int .i64 (encZ xs)]) ∧ Byt.Rd w' w'.heap.size A n (encB xs body) ∧ Below w.heap.size w w' := by
  cases hv : validO xs
  · obtain ⟨rfl, hb⟩ := h.no hv
    refine ⟨none, 0, 0, by simp [encZ, hv], ?_, hb⟩
    have e : encB xs body = [] := by simp [encB, hv]
    rw [e]
    exact Byt.Rd.nil _ _ _
  · obtain ⟨A, n, c, rfl, _, _, hr, _, _, hb⟩ := h.ok hv
    refine ⟨A, n, c, by simp [encZ, hv], ?_, hb⟩
    have e : encB xs body = encO xs body := by simp [encB, hv]
    rw [e]
    exact hr
theorem encB_len {xs : List Sy} {body : List UInt8} (h : xs.length ≤ 60) (hb : body.length ≤ 1000) : (encB xs body).length ≤ 20000 := by
  unfold encB
  split
  · rename_i hv
    have := encO_len (body := body) hv
    omega
  · simp
theorem findS_none : ∀ {xs : List Sy} {s : ByteArray}, has xs s = false → findS xs s = ⟨⟨#[]⟩, 0, 0, 0⟩
  | [], _, _ => rfl
  | x :: xs, s, h => by
    have h' : decide (x.name = s) = false ∧ has xs s = false := by simpa [has] using h
    unfold findS
    rw [if_neg (by simpa using h'.1)]
    exact findS_none h'.2

theorem neq_self (x0 : ByteArray) (x1 x2 x3 : Int) (w : World) : (binOp .neq 38 (.agg #[.string x0, .int .i64 x1, .int .i64 x2, .int .i64 x3]) (.agg #[.string x0, .int .i64 x1, .int .i64 x2, .int .i64 x3])).run Try.prog w = .ok (.bool false) w := by
  rw [neq_sym, Sy.eq_iff.2 rfl]
  rfl

/-- What the law's last region reads. -/
structure Fin (w : World) (gp gq gs : Nat) (A : Option Addr) (n c : Nat) (B : Option Addr) (m d : Nat) (A5 B5 A6 B6 : Option Addr) (n5 c5 m5 d5 n6 c6 m6 d6 : Nat) (f0 : ByteArray) (f1 f2 f3 : Int) (W : World) : Prop where
  p0 : W.cell? ⟨gp, 0, none⟩ = some (.slice A5 n5 c5)
  p1 : W.cell? ⟨gp, 1, none⟩ = some (.slice B5 m5 d5)
  r0 : W.cell? ⟨gq, 0, none⟩ = some (.slice A6 n6 c6)
  r1 : W.cell? ⟨gq, 1, none⟩ = some (.slice B6 m6 d6)
  s0 : W.cell? ⟨gs, 0, none⟩ = some (.string f0)
  s1 : W.cell? ⟨gs, 1, none⟩ = some (.int .i64 f1)
  s2 : W.cell? ⟨gs, 2, none⟩ = some (.int .i64 f2)
  s3 : W.cell? ⟨gs, 3, none⟩ = some (.int .i64 f3)
  o0 : W.cell? ⟨w.heap.size, 0, none⟩ = some (.slice A n c)
  o1 : W.cell? ⟨w.heap.size, 1, none⟩ = some (.slice B m d)

end Go.Proofs.Ytkacndinjomifaa.Matches
namespace Go.Proofs.Ytkacndinjomifaa.Ord
open Go.RowKit Go.Proofs
variable {P : Program} {ops : Array Oper} {Q : Exit → Act → World → Prop} {md : Region.Mode} {S : World → Prop} {z : Nat}
/-- As Till.skip; the slot is named. -/
theorem Till.skip' (i : Nat) (d : Option Nat) {oi : Oper} {k : Nat} {li : Array Bool} {a : Act} {w : World} (hi : ops[i]? = some oi) (hd : oi.dst = d)
    (hs : Region.noSelect ops = true) (hf : Region.free md ops li i = true) (hr : (Region.ready md ops li).contains i = true) (hzb : (match ops[z]? with | some o => o.after.any (fun e => Region.binds md e && e.on == i) | none => true) = true)
    (hQ : ∀ c a w, Q (.panic c) (a.put oi.dst undef) w → Q (.panic c) a w) (hw : Region.wanted oi (yielded ops a.tmps) = false) (hS : S w)
    (h : Till P md ops Q S z k (li.setIfInBounds i true) (a.put d undef) w) : Till P md ops Q S z (k + 1) li a w := by
  subst hd
  exact Till.skip i hi hs hf hr hzb hQ hw hS h
end Go.Proofs.Ytkacndinjomifaa.Ord
namespace Go.Proofs.Ytkacndinjomifaa.Matches
open Go.ChangeShapes Go.WideShapes Go.ChangeAt Go.RowKit Go.Proofs Go.Proofs.Ytkacndinjomifaa.Byt Go.Proofs.Ytkacndinjomifaa.Obj Go.Proofs.Ytkacndinjomifaa.Frame

set_option linter.unusedSimpArgs false in
set_option maxRecDepth 100000 in
set_option maxHeartbeats 8000000 in
theorem walk (w : World) (A : Option Addr) (n c : Nat) (B : Option Addr) (m d : Nat) (xs : List Sy) (body : List UInt8) (h : RdS w w.heap.size A n xs) (hB : Byt.Rd w w.heap.size B m body) (hnc : n ≤ c) (_hc : c ≤ maxLen) (_hmd : m ≤ d) (_hd : d ≤ maxLen) (A' : Option Addr) (n' c' : Nat) (l : List UInt8) (hr : Byt.Rd w w.heap.size A' n' l) (hnc' : n' ≤ c') (hc' : c' ≤ maxLen) (s : ByteArray) (_hs : s.size ≤ maxLen) :
    Calls Try.prog 3 #[.agg #[.slice A n c, .slice B m d], .slice A' n' c', .string s] w fun e w' => e = .returned (.bool true) ∧ Below w.heap.size w w' := by
  have i0 := In.start w A n c B m d
  go_enter Try.func3, Try.ntmps3
  go_wp2_with fail
  refine (awake_any _).mono ?_
  rintro e w1 ⟨rfl, hb1⟩
  have i1 := i0.on hb1
  have q0 := i1.c0
  have q1 := i1.c1
  clear hb1 i0
  go_wp2_with fail
  refine (rfew_any w.heap.size A B n c m d xs w1 (h.below i1.b) i1.b.size).mono ?_
  rintro e w2 ⟨rfl, hb2⟩
  have i2 := i1.on hb2
  clear q0 q1 hb2 i1
  cases hf : fewO xs m
  · go_wp2_with fail
    refine (awake_any _).mono ?_
    rintro e w9 ⟨rfl, hb9⟩
    go_wp2_with fail
    go_ret
    exact ⟨rfl, (i2.on hb9).b⟩
  · obtain ⟨k1, k2, k3⟩ := fewO_iff.1 hf
    have hl := hid h.1
    have hlB := hid hB.1
    have hn60 : n ≤ 60 := by have := hl.out; omega
    clear hf
    by_cases h5 : 5000 < n'
    · have h5i : (5000 : Int) < (n' : Int) := by omega
      go_wp2_with fail
      refine (awake_any _).mono ?_
      rintro e w9 ⟨rfl, hb9⟩
      go_wp2_with fail
      go_ret
      exact ⟨rfl, (i2.on hb9).b⟩
    · have h5i : ¬ (5000 : Int) < (n' : Int) := by omega
      by_cases h3 : 300 < s.size
      · have h3i : (300 : Int) < (s.size : Int) := by omega
        go_wp2_with fail
        refine (awake_any _).mono ?_
        rintro e w9 ⟨rfl, hb9⟩
        go_wp2_with fail
        go_ret
        exact ⟨rfl, (i2.on hb9).b⟩
      · have h3i : ¬ (300 : Int) < (s.size : Int) := by omega
        have q0 := i2.c0
        have q1 := i2.c1
        go_wp2_with fail
        refine (encode_any w.heap.size A B n c m d xs body w2 (h.below i2.b) (hB.below i2.b) i2.b.size (by omega)).mono ?_
        rintro e w3 hE
        obtain ⟨A3, n3, c3, rfl, hr3, hb3⟩ := enc_form hE
        have i3 := i2.on hb3
        have hn3 : n3 ≤ 140737488355328 := by have := encB_len (body := body) k1 (by have := hlB.out; omega); have := hr3.1; omega
        clear hE hb3 i2 q0 q1
        have q0 := i3.c0
        have q1 := i3.c1
        go_wp2_with fail
        refine (rencode_any w.heap.size A B n c m d xs body w3 (h.below i3.b) (hB.below i3.b) i3.b.size (by omega) (by omega) hnc).mono ?_
        rintro e w4 hE
        obtain ⟨A4, n4, c4, rfl, hr4, hb4⟩ := enc_form hE
        have i4 := i3.on hb4
        replace hr3 := (hr3.below hb4).more hb4.size
        clear hE hb4 i3 q0 q1
        generalize encZ xs = z3 at *
        go_wp2_with fail
        refine (decode_any w.heap.size A' n' c' l w4 (hr.below i4.b) i4.b.size hnc' hc' (by omega)).mono ?_
        rintro e w5 hD
        obtain ⟨A5, n5, c5, B5, m5, d5, rfl, hs5, hB5, hnc5, hn5, hm5, _, _, hb5⟩ := hD.reads
        have hlr := hid hr.1
        have hm5 : m5 ≤ 140737488355328 := by have := hlr.out; omega
        have i5 := i4.on hb5
        replace hr3 := (hr3.below hb5).more hb5.size
        replace hr4 := (hr4.below hb5).more hb5.size
        obtain ⟨z5, hz5⟩ : ∃ z, (decO l).1 = z := ⟨_, rfl⟩
        rw [hz5]
        have hb6 := (Below.refl w5.heap.size w5).alloc (Nat.le_refl _) (.cells #[.slice A5 n5 c5, .slice B5 m5 d5] 25)
        have hrowp := heap_alloc_new w5 (.cells #[.slice A5 n5 c5, .slice B5 m5 d5] 25)
        have i6 := i5.on hb6
        replace hr3 := (hr3.below hb6).more hb6.size
        replace hr4 := (hr4.below hb6).more hb6.size
        replace hs5 := (hs5.below hb6).more hb6.size
        replace hB5 := (hB5.below hb6).more hb6.size
        clear hD hb5 hb6 i4 i5
        go_upto_region 6 with fail
        generalize w5.alloc (.cells #[.slice A5 n5 c5, .slice B5 m5 d5] 25) = w6 at *
        generalize w5.heap.size = gp at *
        go_wp2_with fail
        refine (rdecode_any w.heap.size A' n' c' l w6 (hr.below i6.b) i6.b.size hnc' (by omega)).mono ?_
        rintro e w7 hD
        obtain ⟨A6, n6, c6, B6, m6, d6, rfl, hs6, hB6, hnc6, hn6, hm6, _, _, hb7⟩ := hD.reads
        rw [hz5]
        have i7 := i6.on hb7
        have hgp7 : gp < w7.heap.size := Nat.lt_of_lt_of_le (Array.getElem?_eq_some_iff.1 hrowp).1 hb7.size
        replace hrowp := (hb7.block gp (Array.getElem?_eq_some_iff.1 hrowp).1).trans hrowp
        replace hr3 := (hr3.below hb7).more hb7.size
        replace hr4 := (hr4.below hb7).more hb7.size
        replace hs5 := (hs5.below hb7).more hb7.size
        replace hB5 := (hB5.below hb7).more hb7.size
        have hb8 := (Below.refl w7.heap.size w7).alloc (Nat.le_refl _) (.cells #[.slice A6 n6 c6, .slice B6 m6 d6] 25)
        have hrowq := heap_alloc_new w7 (.cells #[.slice A6 n6 c6, .slice B6 m6 d6] 25)
        have i8 := i7.on hb8
        replace hrowp := (hb8.block gp hgp7).trans hrowp
        replace hr3 := (hr3.below hb8).more hb8.size
        replace hr4 := (hr4.below hb8).more hb8.size
        replace hs5 := (hs5.below hb8).more hb8.size
        replace hB5 := (hB5.below hb8).more hb8.size
        replace hs6 := (hs6.below hb8).more hb8.size
        replace hB6 := (hB6.below hb8).more hb8.size
        clear hD hb7 hb8 i6 i7 hz5 hm6
        go_upto_region 7 with fail
        generalize w7.alloc (.cells #[.slice A6 n6 c6, .slice B6 m6 d6] 25) = w8 at *
        generalize w7.heap.size = gq at *
        have q0 := i8.c0
        have q1 := i8.c1
        go_wp2_with fail
        refine (find_any w.heap.size A B n c m d xs s w8 (h.below i8.b) i8.b.size (by omega)).mono ?_
        rintro e w9 ⟨rfl, hb9⟩
        obtain ⟨⟨f0, f1, f2, f3⟩, hfs0⟩ : ∃ y, findS xs s = y := ⟨_, rfl⟩
        have hfs := hid hfs0
        obtain ⟨hb, hhb⟩ : ∃ hb, has xs s = hb := ⟨_, rfl⟩
        rw [hfs0, hhb]
        simp only [Sy.val]
        have i9 := i8.on hb9
        have hgp8 := (Array.getElem?_eq_some_iff.1 hrowp).1
        have hgq8 := (Array.getElem?_eq_some_iff.1 hrowq).1
        have hb10 := hb9.trans (((Below.refl w9.heap.size w9).alloc (Nat.le_refl _) (.cells #[.string f0, .int .i64 f1, .int .i64 f2, .int .i64 f3] 38)).mono hb9.size)
        have hrows := heap_alloc_new w9 (.cells #[.string f0, .int .i64 f1, .int .i64 f2, .int .i64 f3] 38)
        have iV := i8.on hb10
        replace hrowp := (hb10.block gp hgp8).trans hrowp
        replace hrowq := (hb10.block gq hgq8).trans hrowq
        replace hr3 := (hr3.below hb10).more hb10.size
        replace hr4 := (hr4.below hb10).more hb10.size
        replace hs5 := (hs5.below hb10).more hb10.size
        replace hB5 := (hB5.below hb10).more hb10.size
        replace hs6 := (hs6.below hb10).more hb10.size
        replace hB6 := (hB6.below hb10).more hb10.size
        clear hb9 hb10 i8 i9 hfs0 q0 q1 hgp8 hgq8
        go_upto_region 8 with fail
        generalize w9.alloc (.cells #[.string f0, .int .i64 f1, .int .i64 f2, .int .i64 f3] 38) = V at *
        generalize w9.heap.size = gs at *
        have hSall : Hid (∀ W, Below V.heap.size V W → Fin w gp gq gs A n c B m d A5 B5 A6 B6 n5 c5 m5 d5 n6 c6 m6 d6 f0 f1 f2 f3 W) := hid fun W hW => by
          have i := iV.on hW
          have a := (hW.block gp (Array.getElem?_eq_some_iff.1 hrowp).1).trans hrowp
          have b := (hW.block gq (Array.getElem?_eq_some_iff.1 hrowq).1).trans hrowq
          have y := (hW.block gs (Array.getElem?_eq_some_iff.1 hrows).1).trans hrows
          exact ⟨cell_of_row _ gp 0 _ _ _ a, cell_of_row _ gp 1 _ _ _ a, cell_of_row _ gq 0 _ _ _ b, cell_of_row _ gq 1 _ _ _ b, cell_of_row _ gs 0 _ _ _ y, cell_of_row _ gs 1 _ _ _ y, cell_of_row _ gs 2 _ _ _ y, cell_of_row _ gs 3 _ _ _ y, i.c0, i.c1⟩
        clear hrowp hrowq hrows hgp7
        have Hhb := hid hhb
        clear hhb
        go_wp2_with fail
        go_loopw [17, 18] (fun fv iv W => ∃ (k : Nat) (fb : Bool), fv = .bool fb ∧ iv = .int .i64 (k : Int) ∧ k ≤ n ∧ Hid ((fb = true → has xs s = true) ∧ (fb = false → has xs s = has (xs.drop k) s ∧ findS xs s = findS (xs.drop k) s)) ∧ Below V.heap.size V W) (fun _ i _ => n - (intOf i).toNat)
        case atStart => exact ⟨0, false, rfl, rfl, by omega, hid ⟨(fun q => by cases q), fun _ => ⟨rfl, rfl⟩⟩, Below.refl _ _⟩
        case round =>
          obtain ⟨k, fb, rfl, rfl, hk, hG, hbr⟩ := hrel
          obtain ⟨p0, p1, r0, r1, s0, s1, s2, s3, o0, o1⟩ := hSall.out _ hbr
          by_cases hlt : k < n
          · have hki : (k : Int) < (n : Int) := by omega
            cases fb
            · have hkl : k < xs.length := by have := hl.out; omega
              obtain ⟨⟨b, o, rfl, hbK, hcell⟩, hsz⟩ := h.2 k hkl
              have hcl := hcell.below (iV.on hbr).b hbK
              have Hstep := hid (find_step hkl s)
              have HG := hid (hG.out.2 rfl)
              clear hcell hr3 hr4 hs5 hs6 hB5 hB6 hsz
              generalize xs[k] = x at *
              obtain ⟨x0, x1, x2, x3⟩ := x
              by_cases hq : x0 = s
              · obtain ⟨t1, t2⟩ := Hstep.out.1 hq
                have hqb : (x0.toList == s.toList) = true := by rw [beq_iff_eq, str_eq]; exact hq
                have HR : Hid (has xs s = true) := hid (HG.out.1.trans t1)
                have e := hfs.out.symm.trans (HG.out.2.trans t2)
                injection e with e0 e1 e2 e3
                subst e0 e1 e2 e3
                obtain ⟨y0, y1, y2, y3⟩ := hcl
                have hgd := fun w => guard_sym .neq (.tmp 82) (.tmp 87) #[.string f0, .int .i64 f1, .int .i64 f2, .int .i64 f3] #[.string f0, .int .i64 f1, .int .i64 f2, .int .i64 f3] w
                have hne := fun w => neq_self f0 f1 f2 f3 w
                clear hq t1 t2
                go_wp2_with fail
                go_region_held3 (fun W' => W'.cell? ⟨gs, 0, none⟩ = some (.string f0) ∧ W'.cell? ⟨gs, 1, none⟩ = some (.int .i64 f1) ∧ W'.cell? ⟨gs, 2, none⟩ = some (.int .i64 f2) ∧ W'.cell? ⟨gs, 3, none⟩ = some (.int .i64 f3) ∧ W'.cell? ⟨w.heap.size, 0, none⟩ = some (.slice (some ⟨b, o, none⟩) n c) ∧ W'.cell? ⟨b, o + k * 4, none⟩ = some (.string f0) ∧ W'.cell? ⟨b, o + k * 4 + 1, none⟩ = some (.int .i64 f1) ∧ W'.cell? ⟨b, o + k * 4 + 2, none⟩ = some (.int .i64 f2) ∧ W'.cell? ⟨b, o + k * 4 + 3, none⟩ = some (.int .i64 f3) ∧ Below wr.heap.size wr W')
                  (exact ⟨s0, s1, s2, s3, o0, y0, y1, y2, y3, (Below.refl _ _).drew⟩)
                  (fail)
                clear hgd hne
                go_wp2_with fail
                go_roundw
                · exact ⟨k + 1, true, rfl, by go_num, by omega, hid ⟨fun _ => HR.out, fun q => by cases q⟩, hbr.drew⟩
                · simp [intOf]; omega
              · obtain ⟨t1, t2⟩ := Hstep.out.2 hq
                have hqb : (x0.toList == s.toList) = false := by rw [beq_eq_false_iff_ne, ne_eq, str_eq]; exact hq
                have HR : Hid (has xs s = has (xs.drop (k + 1)) s ∧ findS xs s = findS (xs.drop (k + 1)) s) := hid ⟨HG.out.1.trans t1, HG.out.2.trans t2⟩
                obtain ⟨y0, y1, y2, y3⟩ := hcl
                clear hq t1 t2
                go_wp2_with fail
                go_roundw
                all_goals first
                  | exact ⟨k + 1, false, rfl, by go_num, by omega, hid ⟨(fun q => by cases q), fun _ => HR.out⟩, hbr⟩
                  | (simp [intOf]; omega)
            · have Hf : Hid (has xs s = true) := hid (hG.out.1 rfl)
              obtain rfl : hb = true := by rw [← Hhb.out]; exact Hf.out
              have hbX0 : Below V.heap.size V wr.drew := hbr.drew
              have H1 : Hid (∀ W, Below V.heap.size V W → Calls Try.prog 15 #[.slice A3 n3 c3, .slice A4 n4 c4] W fun e W' => e = .returned (.bool true) ∧ ∃ k, W' = W.drewN k) := hid fun W hW => by
                have q := Dec.same_any 15 rfl V.heap.size V.heap.size A3 A4 n3 c3 n4 c4 _ _ W (hr3.below hW) (hr4.below hW) hn3
                rw [beq_self_eq_true] at q
                exact q
              have H2 : Hid (∀ W, Below V.heap.size V W → Calls Try.prog 16 #[.agg #[.slice A5 n5 c5, .slice B5 m5 d5], .agg #[.slice A6 n6 c6, .slice B6 m6 d6]] W fun e W' => e = .returned (.bool true) ∧ Below W.heap.size W W') := hid fun W hW => by
                have q := rsame_any V.heap.size A5 B5 A6 B6 n5 c5 m5 d5 n6 c6 m6 d6 _ _ _ _ W (hs5.below hW) (hs6.below hW) (hB5.below hW) (hB6.below hW) hW.size (by omega) hm5
                rw [sameS_eq.2 rfl, beq_self_eq_true] at q
                exact q
              have H3 : Hid (∀ W, Below V.heap.size V W → Calls Try.prog 17 #[.agg #[.slice A n c, .slice B m d]] W fun e W' => e = .returned (.bool (validO xs)) ∧ Below W.heap.size W W') := hid fun W hW =>
                valid_any w.heap.size A B n c m d xs W (h.below (iV.on hW).b) (iV.on hW).b.size
              have H4 : Hid (∀ W, Below V.heap.size V W → Calls Try.prog 18 #[.agg #[.slice A n c, .slice B m d]] W fun e W' => e = .returned (.bool (validO xs)) ∧ Below W.heap.size W W') := hid fun W hW =>
                rvalid_any w.heap.size A B n c m d xs W (h.below (iV.on hW).b) (iV.on hW).b.size (by omega) hnc
              have HiV := hid iV
              generalize validO xs = vb at *
              go_upto_region 16 with fail
              clear hr3 hr4 hs5 hs6 hB5 hB6
              refine Ord.Till.begin (fun W => Fin w gp gq gs A n c B m d A5 B5 A6 B6 n5 c5 m5 d5 n6 c6 m6 d6 f0 f1 f2 f3 W) 60 (by kernel_rfl) ?_
              refine Ord.Till.take' 0 (some 89) (oi := _) (x := ?_) rfl rfl (by kernel_rfl) (by kernel_rfl) (by kernel_rfl) (by kernel_rfl) (fun _ _ _ h => h) (by kernel_rfl) ?_ (hSall.out _ hbX0) ?_
              rotate_left 1
              · intro v hv; obtain ⟨z0, z1, z2, z3, z4, z5, z6, z7, z8, z9⟩ := hv; go_simp; first | done | with_reducible rfl
              try simp only [Act.put, List.setIfInBounds_toArray, List.set_cons_zero, List.set_cons_succ]
              refine Ord.Till.take' 1 (some 90) (oi := _) (x := ?_) rfl rfl (by kernel_rfl) (by kernel_rfl) (by kernel_rfl) (by kernel_rfl) (fun _ _ _ h => h) (by kernel_rfl) ?_ (hSall.out _ hbX0) ?_
              rotate_left 1
              · intro v hv; obtain ⟨z0, z1, z2, z3, z4, z5, z6, z7, z8, z9⟩ := hv; go_simp; first | done | with_reducible rfl
              try simp only [Act.put, List.setIfInBounds_toArray, List.set_cons_zero, List.set_cons_succ]
              refine Ord.Till.step 2 (by kernel_rfl) rfl (fun C hC => ?_)
              go_simp
              go_at_call 15
              refine (H1.out _ hbX0).mono ?_
              rintro e y2 ⟨rfl, k2, hw2⟩
              have hb1 : Below V.heap.size V y2 := by rw [hw2]; exact hbX0.trans (Obj.below_drewN _ _)
              clear hw2
              refine hC.out _ _ (fun _ => hSall.out _ hb1) ?_
              clear hC C
              try simp only [Act.put, List.setIfInBounds_toArray, List.set_cons_zero, List.set_cons_succ]
              refine Ord.Till.take' 3 (some 92) (oi := _) (x := ?_) rfl rfl (by kernel_rfl) (by kernel_rfl) (by kernel_rfl) (by kernel_rfl) (fun _ _ _ h => h) (by kernel_rfl) ?_ (hSall.out _ hb1) ?_
              rotate_left 1
              · intro v hv; obtain ⟨z0, z1, z2, z3, z4, z5, z6, z7, z8, z9⟩ := hv; go_simp; first | done | with_reducible rfl
              try simp only [Act.put, List.setIfInBounds_toArray, List.set_cons_zero, List.set_cons_succ]
              refine Ord.Till.take' 4 (some 93) (oi := _) (x := ?_) rfl rfl (by kernel_rfl) (by kernel_rfl) (by kernel_rfl) (by kernel_rfl) (fun _ _ _ h => h) (by kernel_rfl) ?_ (hSall.out _ hb1) ?_
              rotate_left 1
              · intro v hv; obtain ⟨z0, z1, z2, z3, z4, z5, z6, z7, z8, z9⟩ := hv; go_simp; first | done | with_reducible rfl
              try simp only [Act.put, List.setIfInBounds_toArray, List.set_cons_zero, List.set_cons_succ]
              refine Ord.Till.take' 5 (some 94) (oi := _) (x := ?_) rfl rfl (by kernel_rfl) (by kernel_rfl) (by kernel_rfl) (by kernel_rfl) (fun _ _ _ h => h) (by kernel_rfl) ?_ (hSall.out _ hb1) ?_
              rotate_left 1
              · intro v hv; obtain ⟨z0, z1, z2, z3, z4, z5, z6, z7, z8, z9⟩ := hv; go_simp; first | done | with_reducible rfl
              try simp only [Act.put, List.setIfInBounds_toArray, List.set_cons_zero, List.set_cons_succ]
              refine Ord.Till.take' 6 (some 95) (oi := _) (x := ?_) rfl rfl (by kernel_rfl) (by kernel_rfl) (by kernel_rfl) (by kernel_rfl) (fun _ _ _ h => h) (by kernel_rfl) ?_ (hSall.out _ hb1) ?_
              rotate_left 1
              · intro v hv; obtain ⟨z0, z1, z2, z3, z4, z5, z6, z7, z8, z9⟩ := hv; go_simp; first | done | with_reducible rfl
              try simp only [Act.put, List.setIfInBounds_toArray, List.set_cons_zero, List.set_cons_succ]
              refine Ord.Till.take' 7 (some 96) (oi := _) (x := ?_) rfl rfl (by kernel_rfl) (by kernel_rfl) (by kernel_rfl) (by kernel_rfl) (fun _ _ _ h => h) (by kernel_rfl) ?_ (hSall.out _ hb1) ?_
              rotate_left 1
              · intro v hv; obtain ⟨z0, z1, z2, z3, z4, z5, z6, z7, z8, z9⟩ := hv; go_simp; first | done | with_reducible rfl
              try simp only [Act.put, List.setIfInBounds_toArray, List.set_cons_zero, List.set_cons_succ]
              refine Ord.Till.take' 8 (some 97) (oi := _) (x := ?_) rfl rfl (by kernel_rfl) (by kernel_rfl) (by kernel_rfl) (by kernel_rfl) (fun _ _ _ h => h) (by kernel_rfl) ?_ (hSall.out _ hb1) ?_
              rotate_left 1
              · intro v hv; obtain ⟨z0, z1, z2, z3, z4, z5, z6, z7, z8, z9⟩ := hv; go_simp; first | done | with_reducible rfl
              try simp only [Act.put, List.setIfInBounds_toArray, List.set_cons_zero, List.set_cons_succ]
              refine Ord.Till.take' 9 (some 98) (oi := _) (x := ?_) rfl rfl (by kernel_rfl) (by kernel_rfl) (by kernel_rfl) (by kernel_rfl) (fun _ _ _ h => h) (by kernel_rfl) ?_ (hSall.out _ hb1) ?_
              rotate_left 1
              · intro v hv; obtain ⟨z0, z1, z2, z3, z4, z5, z6, z7, z8, z9⟩ := hv; go_simp; first | done | with_reducible rfl
              try simp only [Act.put, List.setIfInBounds_toArray, List.set_cons_zero, List.set_cons_succ]
              refine Ord.Till.take' 10 (some 99) (oi := _) (x := ?_) rfl rfl (by kernel_rfl) (by kernel_rfl) (by kernel_rfl) (by kernel_rfl) (fun _ _ _ h => h) (by kernel_rfl) ?_ (hSall.out _ hb1) ?_
              rotate_left 1
              · intro v hv; obtain ⟨z0, z1, z2, z3, z4, z5, z6, z7, z8, z9⟩ := hv; go_simp; first | done | with_reducible rfl
              try simp only [Act.put, List.setIfInBounds_toArray, List.set_cons_zero, List.set_cons_succ]
              refine Ord.Till.step 11 (by kernel_rfl) rfl (fun C hC => ?_)
              go_simp
              go_at_call 16
              refine (H2.out _ hb1).mono ?_
              rintro e y11 ⟨rfl, hc11⟩
              have hb2 := hb1.trans (hc11.mono hb1.size)
              clear hc11
              refine hC.out _ _ (fun _ => hSall.out _ hb2) ?_
              clear hC C
              try simp only [Act.put, List.setIfInBounds_toArray, List.set_cons_zero, List.set_cons_succ]
              refine Ord.Till.take' 12 (some 101) (oi := _) (x := ?_) rfl rfl (by kernel_rfl) (by kernel_rfl) (by kernel_rfl) (by kernel_rfl) (fun _ _ _ h => h) (by kernel_rfl) ?_ (hSall.out _ hb2) ?_
              rotate_left 1
              · intro v hv; obtain ⟨z0, z1, z2, z3, z4, z5, z6, z7, z8, z9⟩ := hv; go_simp; first | done | with_reducible rfl
              try simp only [Act.put, List.setIfInBounds_toArray, List.set_cons_zero, List.set_cons_succ]
              refine Ord.Till.take' 13 (some 102) (oi := _) (x := ?_) rfl rfl (by kernel_rfl) (by kernel_rfl) (by kernel_rfl) (by kernel_rfl) (fun _ _ _ h => h) (by kernel_rfl) ?_ (hSall.out _ hb2) ?_
              rotate_left 1
              · intro v hv; obtain ⟨z0, z1, z2, z3, z4, z5, z6, z7, z8, z9⟩ := hv; go_simp; first | done | with_reducible rfl
              try simp only [Act.put, List.setIfInBounds_toArray, List.set_cons_zero, List.set_cons_succ]
              refine Ord.Till.take' 14 (some 103) (oi := _) (x := ?_) rfl rfl (by kernel_rfl) (by kernel_rfl) (by kernel_rfl) (by kernel_rfl) (fun _ _ _ h => h) (by kernel_rfl) ?_ (hSall.out _ hb2) ?_
              rotate_left 1
              · intro v hv; obtain ⟨z0, z1, z2, z3, z4, z5, z6, z7, z8, z9⟩ := hv; go_simp; first | done | with_reducible rfl
              try simp only [Act.put, List.setIfInBounds_toArray, List.set_cons_zero, List.set_cons_succ]
              refine Ord.Till.take' 15 (some 104) (oi := _) (x := ?_) rfl rfl (by kernel_rfl) (by kernel_rfl) (by kernel_rfl) (by kernel_rfl) (fun _ _ _ h => h) (by kernel_rfl) ?_ (hSall.out _ hb2) ?_
              rotate_left 1
              · intro v hv; obtain ⟨z0, z1, z2, z3, z4, z5, z6, z7, z8, z9⟩ := hv; go_simp; first | done | with_reducible rfl
              try simp only [Act.put, List.setIfInBounds_toArray, List.set_cons_zero, List.set_cons_succ]
              refine Ord.Till.take' 16 (some 105) (oi := _) (x := ?_) rfl rfl (by kernel_rfl) (by kernel_rfl) (by kernel_rfl) (by kernel_rfl) (fun _ _ _ h => h) (by kernel_rfl) ?_ (hSall.out _ hb2) ?_
              rotate_left 1
              · intro v hv; obtain ⟨z0, z1, z2, z3, z4, z5, z6, z7, z8, z9⟩ := hv; go_simp; first | done | with_reducible rfl
              try simp only [Act.put, List.setIfInBounds_toArray, List.set_cons_zero, List.set_cons_succ]
              refine Ord.Till.take' 17 (some 106) (oi := _) (x := ?_) rfl rfl (by kernel_rfl) (by kernel_rfl) (by kernel_rfl) (by kernel_rfl) (fun _ _ _ h => h) (by kernel_rfl) ?_ (hSall.out _ hb2) ?_
              rotate_left 1
              · intro v hv; obtain ⟨z0, z1, z2, z3, z4, z5, z6, z7, z8, z9⟩ := hv; go_simp; first | done | with_reducible rfl
              try simp only [Act.put, List.setIfInBounds_toArray, List.set_cons_zero, List.set_cons_succ]
              refine Ord.Till.take' 18 (some 107) (oi := _) (x := ?_) rfl rfl (by kernel_rfl) (by kernel_rfl) (by kernel_rfl) (by kernel_rfl) (fun _ _ _ h => h) (by kernel_rfl) ?_ (hSall.out _ hb2) ?_
              rotate_left 1
              · intro v hv; obtain ⟨z0, z1, z2, z3, z4, z5, z6, z7, z8, z9⟩ := hv; go_simp; first | done | with_reducible rfl
              try simp only [Act.put, List.setIfInBounds_toArray, List.set_cons_zero, List.set_cons_succ]
              refine Ord.Till.take' 19 (some 108) (oi := _) (x := ?_) rfl rfl (by kernel_rfl) (by kernel_rfl) (by kernel_rfl) (by kernel_rfl) (fun _ _ _ h => h) (by kernel_rfl) ?_ (hSall.out _ hb2) ?_
              rotate_left 1
              · intro v hv; obtain ⟨z0, z1, z2, z3, z4, z5, z6, z7, z8, z9⟩ := hv; go_simp; first | done | with_reducible rfl
              try simp only [Act.put, List.setIfInBounds_toArray, List.set_cons_zero, List.set_cons_succ]
              refine Ord.Till.take' 21 (some 110) (oi := _) (x := ?_) rfl rfl (by kernel_rfl) (by kernel_rfl) (by kernel_rfl) (by kernel_rfl) (fun _ _ _ h => h) (by kernel_rfl) ?_ (hSall.out _ hb2) ?_
              rotate_left 1
              · intro v hv; obtain ⟨z0, z1, z2, z3, z4, z5, z6, z7, z8, z9⟩ := hv; go_simp; first | done | with_reducible rfl
              try simp only [Act.put, List.setIfInBounds_toArray, List.set_cons_zero, List.set_cons_succ]
              refine Ord.Till.step 20 (by kernel_rfl) rfl (fun C hC => ?_)
              go_simp
              go_at_call 17
              refine (H3.out _ hb2).mono ?_
              rintro e y20 ⟨rfl, hc20⟩
              have hb3 := hb2.trans (hc20.mono hb2.size)
              clear hc20
              refine hC.out _ _ (fun _ => hSall.out _ hb3) ?_
              clear hC C
              try simp only [Act.put, List.setIfInBounds_toArray, List.set_cons_zero, List.set_cons_succ]
              refine Ord.Till.step 22 (by kernel_rfl) rfl (fun C hC => ?_)
              go_simp
              go_at_call 18
              refine (H4.out _ hb3).mono ?_
              rintro e y22 ⟨rfl, hc22⟩
              have hb4 := hb3.trans (hc22.mono hb3.size)
              clear hc22
              refine hC.out _ _ (fun _ => hSall.out _ hb4) ?_
              clear hC C
              try simp only [Act.put, List.setIfInBounds_toArray, List.set_cons_zero, List.set_cons_succ]
              refine Ord.Till.take' 23 (some 112) (oi := _) (x := ?_) rfl rfl (by kernel_rfl) (by kernel_rfl) (by kernel_rfl) (by kernel_rfl) (fun _ _ _ h => h) (by kernel_rfl) ?_ (hSall.out _ hb4) ?_
              rotate_left 1
              · intro v hv; obtain ⟨z0, z1, z2, z3, z4, z5, z6, z7, z8, z9⟩ := hv; go_simp; first | done | with_reducible rfl
              try simp only [Act.put, List.setIfInBounds_toArray, List.set_cons_zero, List.set_cons_succ]
              refine Ord.Till.take' 24 (some 113) (oi := _) (x := ?_) rfl rfl (by kernel_rfl) (by kernel_rfl) (by kernel_rfl) (by kernel_rfl) (fun _ _ _ h => h) (by kernel_rfl) ?_ (hSall.out _ hb4) ?_
              rotate_left 1
              · intro v hv; obtain ⟨z0, z1, z2, z3, z4, z5, z6, z7, z8, z9⟩ := hv; go_simp; first | done | with_reducible rfl
              try simp only [Act.put, List.setIfInBounds_toArray, List.set_cons_zero, List.set_cons_succ]
              refine Ord.Till.take' 25 (some 114) (oi := _) (x := ?_) rfl rfl (by kernel_rfl) (by kernel_rfl) (by kernel_rfl) (by kernel_rfl) (fun _ _ _ h => h) (by kernel_rfl) ?_ (hSall.out _ hb4) ?_
              rotate_left 1
              · intro v hv; obtain ⟨z0, z1, z2, z3, z4, z5, z6, z7, z8, z9⟩ := hv; go_simp; first | done | with_reducible rfl
              try simp only [Act.put, List.setIfInBounds_toArray, List.set_cons_zero, List.set_cons_succ]
              refine Ord.Till.take' 26 (some 115) (oi := _) (x := ?_) rfl rfl (by kernel_rfl) (by kernel_rfl) (by kernel_rfl) (by kernel_rfl) (fun _ _ _ h => h) (by kernel_rfl) ?_ (hSall.out _ hb4) ?_
              rotate_left 1
              · intro v hv; obtain ⟨z0, z1, z2, z3, z4, z5, z6, z7, z8, z9⟩ := hv; go_simp; first | done | with_reducible rfl
              try simp only [Act.put, List.setIfInBounds_toArray, List.set_cons_zero, List.set_cons_succ]
              refine Ord.Till.take' 27 (some 116) (oi := _) (x := ?_) rfl rfl (by kernel_rfl) (by kernel_rfl) (by kernel_rfl) (by kernel_rfl) (fun _ _ _ h => h) (by kernel_rfl) ?_ (hSall.out _ hb4) ?_
              rotate_left 1
              · intro v hv; obtain ⟨z0, z1, z2, z3, z4, z5, z6, z7, z8, z9⟩ := hv; go_simp; first | done | with_reducible rfl
              try simp only [Act.put, List.setIfInBounds_toArray, List.set_cons_zero, List.set_cons_succ]
              refine Ord.Till.take' 28 (some 117) (oi := _) (x := ?_) rfl rfl (by kernel_rfl) (by kernel_rfl) (by kernel_rfl) (by kernel_rfl) (fun _ _ _ h => h) (by kernel_rfl) ?_ (hSall.out _ hb4) ?_
              rotate_left 1
              · intro v hv; obtain ⟨z0, z1, z2, z3, z4, z5, z6, z7, z8, z9⟩ := hv; go_simp; first | done | with_reducible rfl
              try simp only [Act.put, List.setIfInBounds_toArray, List.set_cons_zero, List.set_cons_succ]
              refine Ord.Till.take' 29 (some 118) (oi := _) (x := ?_) rfl rfl (by kernel_rfl) (by kernel_rfl) (by kernel_rfl) (by kernel_rfl) (fun _ _ _ h => h) (by kernel_rfl) ?_ (hSall.out _ hb4) ?_
              rotate_left 1
              · intro v hv; obtain ⟨z0, z1, z2, z3, z4, z5, z6, z7, z8, z9⟩ := hv; go_simp; first | done | with_reducible rfl
              try simp only [Act.put, List.setIfInBounds_toArray, List.set_cons_zero, List.set_cons_succ]
              refine Ord.Till.take' 30 (some 119) (oi := _) (x := ?_) rfl rfl (by kernel_rfl) (by kernel_rfl) (by kernel_rfl) (by kernel_rfl) (fun _ _ _ h => h) (by kernel_rfl) ?_ (hSall.out _ hb4) ?_
              rotate_left 1
              · intro v hv; obtain ⟨z0, z1, z2, z3, z4, z5, z6, z7, z8, z9⟩ := hv; go_simp; first | done | with_reducible rfl
              try simp only [Act.put, List.setIfInBounds_toArray, List.set_cons_zero, List.set_cons_succ]
              refine Ord.Till.take' 31 (some 120) (oi := _) (x := ?_) rfl rfl (by kernel_rfl) (by kernel_rfl) (by kernel_rfl) (by kernel_rfl) (fun _ _ _ h => h) (by kernel_rfl) ?_ (hSall.out _ hb4) ?_
              rotate_left 1
              · intro v hv; obtain ⟨z0, z1, z2, z3, z4, z5, z6, z7, z8, z9⟩ := hv; go_simp; first | done | with_reducible rfl
              try simp only [Act.put, List.setIfInBounds_toArray, List.set_cons_zero, List.set_cons_succ]
              refine Ord.Till.take' 32 (some 121) (oi := _) (x := ?_) rfl rfl (by kernel_rfl) (by kernel_rfl) (by kernel_rfl) (by kernel_rfl) (fun _ _ _ h => h) (by kernel_rfl) ?_ (hSall.out _ hb4) ?_
              rotate_left 1
              · intro v hv; obtain ⟨z0, z1, z2, z3, z4, z5, z6, z7, z8, z9⟩ := hv; go_simp; first | done | with_reducible rfl
              try simp only [Act.put, List.setIfInBounds_toArray, List.set_cons_zero, List.set_cons_succ]
              refine Ord.Till.skip' 33 (some 122) (oi := _) rfl rfl (by kernel_rfl) (by kernel_rfl) (by kernel_rfl) (by kernel_rfl) (fun _ _ _ h => h) (by kernel_rfl) (hSall.out _ hb4) ?_
              try simp only [Act.put, List.setIfInBounds_toArray, List.set_cons_zero, List.set_cons_succ]
              refine Ord.Till.skip' 34 (some 123) (oi := _) rfl rfl (by kernel_rfl) (by kernel_rfl) (by kernel_rfl) (by kernel_rfl) (fun _ _ _ h => h) (by kernel_rfl) (hSall.out _ hb4) ?_
              try simp only [Act.put, List.setIfInBounds_toArray, List.set_cons_zero, List.set_cons_succ]
              refine Ord.Till.skip' 35 (some 124) (oi := _) rfl rfl (by kernel_rfl) (by kernel_rfl) (by kernel_rfl) (by kernel_rfl) (fun _ _ _ h => h) (by kernel_rfl) (hSall.out _ hb4) ?_
              try simp only [Act.put, List.setIfInBounds_toArray, List.set_cons_zero, List.set_cons_succ]
              refine Ord.Till.take' 36 (some 125) (oi := _) (x := ?_) rfl rfl (by kernel_rfl) (by kernel_rfl) (by kernel_rfl) (by kernel_rfl) (fun _ _ _ h => h) (by kernel_rfl) ?_ (hSall.out _ hb4) ?_
              rotate_left 1
              · intro v hv; obtain ⟨z0, z1, z2, z3, z4, z5, z6, z7, z8, z9⟩ := hv; go_simp; first | done | with_reducible rfl
              try simp only [Act.put, List.setIfInBounds_toArray, List.set_cons_zero, List.set_cons_succ]
              refine Ord.Till.take' 37 (some 126) (oi := _) (x := ?_) rfl rfl (by kernel_rfl) (by kernel_rfl) (by kernel_rfl) (by kernel_rfl) (fun _ _ _ h => h) (by kernel_rfl) ?_ (hSall.out _ hb4) ?_
              rotate_left 1
              · intro v hv; obtain ⟨z0, z1, z2, z3, z4, z5, z6, z7, z8, z9⟩ := hv; go_simp; first | done | with_reducible rfl
              try simp only [Act.put, List.setIfInBounds_toArray, List.set_cons_zero, List.set_cons_succ]
              refine Ord.Till.take' 38 (some 6) (oi := _) (x := ?_) rfl rfl (by kernel_rfl) (by kernel_rfl) (by kernel_rfl) (by kernel_rfl) (fun _ _ _ h => h) (by kernel_rfl) ?_ (hSall.out _ hb4) ?_
              rotate_left 1
              · intro v hv; obtain ⟨z0, z1, z2, z3, z4, z5, z6, z7, z8, z9⟩ := hv; go_simp; first | done | with_reducible rfl
              try simp only [Act.put, List.setIfInBounds_toArray, List.set_cons_zero, List.set_cons_succ]
              refine Ord.Till.done (by kernel_rfl) ?_ _
              go_wp2_with fail
              go_ret
              exact ⟨rfl, (HiV.out.on hb4).b⟩
          · have hki : ¬ (k : Int) < (n : Int) := by omega
            cases fb
            · have Hf : Hid (has xs s = false) := hid (by rw [(hG.out.2 rfl).1, List.drop_eq_nil_of_le (by have := hl.out; omega)]; rfl)
              obtain rfl : hb = false := by rw [← Hhb.out]; exact Hf.out
              have hbX0 : Below V.heap.size V wr.drew := hbr.drew
              have H1 : Hid (∀ W, Below V.heap.size V W → Calls Try.prog 15 #[.slice A3 n3 c3, .slice A4 n4 c4] W fun e W' => e = .returned (.bool true) ∧ ∃ k, W' = W.drewN k) := hid fun W hW => by
                have q := Dec.same_any 15 rfl V.heap.size V.heap.size A3 A4 n3 c3 n4 c4 _ _ W (hr3.below hW) (hr4.below hW) hn3
                rw [beq_self_eq_true] at q
                exact q
              have H2 : Hid (∀ W, Below V.heap.size V W → Calls Try.prog 16 #[.agg #[.slice A5 n5 c5, .slice B5 m5 d5], .agg #[.slice A6 n6 c6, .slice B6 m6 d6]] W fun e W' => e = .returned (.bool true) ∧ Below W.heap.size W W') := hid fun W hW => by
                have q := rsame_any V.heap.size A5 B5 A6 B6 n5 c5 m5 d5 n6 c6 m6 d6 _ _ _ _ W (hs5.below hW) (hs6.below hW) (hB5.below hW) (hB6.below hW) hW.size (by omega) hm5
                rw [sameS_eq.2 rfl, beq_self_eq_true] at q
                exact q
              have H3 : Hid (∀ W, Below V.heap.size V W → Calls Try.prog 17 #[.agg #[.slice A n c, .slice B m d]] W fun e W' => e = .returned (.bool (validO xs)) ∧ Below W.heap.size W W') := hid fun W hW =>
                valid_any w.heap.size A B n c m d xs W (h.below (iV.on hW).b) (iV.on hW).b.size
              have H4 : Hid (∀ W, Below V.heap.size V W → Calls Try.prog 18 #[.agg #[.slice A n c, .slice B m d]] W fun e W' => e = .returned (.bool (validO xs)) ∧ Below W.heap.size W W') := hid fun W hW =>
                rvalid_any w.heap.size A B n c m d xs W (h.below (iV.on hW).b) (iV.on hW).b.size (by omega) hnc
              have HiV := hid iV
              generalize validO xs = vb at *
              have hfz := findS_none Hf.out
              rw [hfs.out] at hfz
              injection hfz with hf0 hf1 hf2 hf3
              subst hf0 hf1 hf2 hf3
              have gs' := fun w => guard_sym .eql (.tmp 122) (.tmp 123) #[.string ⟨#[]⟩, .int .i64 0, .int .i64 0, .int .i64 0] #[.string ⟨#[]⟩, .int .i64 0, .int .i64 0, .int .i64 0] w
              have es' := fun w => eql_self ⟨#[]⟩ 0 0 0 w
              go_upto_region 16 with fail
              clear hr3 hr4 hs5 hs6 hB5 hB6
              refine Ord.Till.begin (fun W => Fin w gp gq gs A n c B m d A5 B5 A6 B6 n5 c5 m5 d5 n6 c6 m6 d6 ⟨#[]⟩ 0 0 0 W) 60 (by kernel_rfl) ?_
              refine Ord.Till.take' 0 (some 89) (oi := _) (x := ?_) rfl rfl (by kernel_rfl) (by kernel_rfl) (by kernel_rfl) (by kernel_rfl) (fun _ _ _ h => h) (by kernel_rfl) ?_ (hSall.out _ hbX0) ?_
              rotate_left 1
              · intro v hv; obtain ⟨z0, z1, z2, z3, z4, z5, z6, z7, z8, z9⟩ := hv; go_simp; first | done | with_reducible rfl
              try simp only [Act.put, List.setIfInBounds_toArray, List.set_cons_zero, List.set_cons_succ]
              refine Ord.Till.take' 1 (some 90) (oi := _) (x := ?_) rfl rfl (by kernel_rfl) (by kernel_rfl) (by kernel_rfl) (by kernel_rfl) (fun _ _ _ h => h) (by kernel_rfl) ?_ (hSall.out _ hbX0) ?_
              rotate_left 1
              · intro v hv; obtain ⟨z0, z1, z2, z3, z4, z5, z6, z7, z8, z9⟩ := hv; go_simp; first | done | with_reducible rfl
              try simp only [Act.put, List.setIfInBounds_toArray, List.set_cons_zero, List.set_cons_succ]
              refine Ord.Till.step 2 (by kernel_rfl) rfl (fun C hC => ?_)
              go_simp
              go_at_call 15
              refine (H1.out _ hbX0).mono ?_
              rintro e y2 ⟨rfl, k2, hw2⟩
              have hb1 : Below V.heap.size V y2 := by rw [hw2]; exact hbX0.trans (Obj.below_drewN _ _)
              clear hw2
              refine hC.out _ _ (fun _ => hSall.out _ hb1) ?_
              clear hC C
              try simp only [Act.put, List.setIfInBounds_toArray, List.set_cons_zero, List.set_cons_succ]
              refine Ord.Till.take' 3 (some 92) (oi := _) (x := ?_) rfl rfl (by kernel_rfl) (by kernel_rfl) (by kernel_rfl) (by kernel_rfl) (fun _ _ _ h => h) (by kernel_rfl) ?_ (hSall.out _ hb1) ?_
              rotate_left 1
              · intro v hv; obtain ⟨z0, z1, z2, z3, z4, z5, z6, z7, z8, z9⟩ := hv; go_simp; first | done | with_reducible rfl
              try simp only [Act.put, List.setIfInBounds_toArray, List.set_cons_zero, List.set_cons_succ]
              refine Ord.Till.take' 4 (some 93) (oi := _) (x := ?_) rfl rfl (by kernel_rfl) (by kernel_rfl) (by kernel_rfl) (by kernel_rfl) (fun _ _ _ h => h) (by kernel_rfl) ?_ (hSall.out _ hb1) ?_
              rotate_left 1
              · intro v hv; obtain ⟨z0, z1, z2, z3, z4, z5, z6, z7, z8, z9⟩ := hv; go_simp; first | done | with_reducible rfl
              try simp only [Act.put, List.setIfInBounds_toArray, List.set_cons_zero, List.set_cons_succ]
              refine Ord.Till.take' 5 (some 94) (oi := _) (x := ?_) rfl rfl (by kernel_rfl) (by kernel_rfl) (by kernel_rfl) (by kernel_rfl) (fun _ _ _ h => h) (by kernel_rfl) ?_ (hSall.out _ hb1) ?_
              rotate_left 1
              · intro v hv; obtain ⟨z0, z1, z2, z3, z4, z5, z6, z7, z8, z9⟩ := hv; go_simp; first | done | with_reducible rfl
              try simp only [Act.put, List.setIfInBounds_toArray, List.set_cons_zero, List.set_cons_succ]
              refine Ord.Till.take' 6 (some 95) (oi := _) (x := ?_) rfl rfl (by kernel_rfl) (by kernel_rfl) (by kernel_rfl) (by kernel_rfl) (fun _ _ _ h => h) (by kernel_rfl) ?_ (hSall.out _ hb1) ?_
              rotate_left 1
              · intro v hv; obtain ⟨z0, z1, z2, z3, z4, z5, z6, z7, z8, z9⟩ := hv; go_simp; first | done | with_reducible rfl
              try simp only [Act.put, List.setIfInBounds_toArray, List.set_cons_zero, List.set_cons_succ]
              refine Ord.Till.take' 7 (some 96) (oi := _) (x := ?_) rfl rfl (by kernel_rfl) (by kernel_rfl) (by kernel_rfl) (by kernel_rfl) (fun _ _ _ h => h) (by kernel_rfl) ?_ (hSall.out _ hb1) ?_
              rotate_left 1
              · intro v hv; obtain ⟨z0, z1, z2, z3, z4, z5, z6, z7, z8, z9⟩ := hv; go_simp; first | done | with_reducible rfl
              try simp only [Act.put, List.setIfInBounds_toArray, List.set_cons_zero, List.set_cons_succ]
              refine Ord.Till.take' 8 (some 97) (oi := _) (x := ?_) rfl rfl (by kernel_rfl) (by kernel_rfl) (by kernel_rfl) (by kernel_rfl) (fun _ _ _ h => h) (by kernel_rfl) ?_ (hSall.out _ hb1) ?_
              rotate_left 1
              · intro v hv; obtain ⟨z0, z1, z2, z3, z4, z5, z6, z7, z8, z9⟩ := hv; go_simp; first | done | with_reducible rfl
              try simp only [Act.put, List.setIfInBounds_toArray, List.set_cons_zero, List.set_cons_succ]
              refine Ord.Till.take' 9 (some 98) (oi := _) (x := ?_) rfl rfl (by kernel_rfl) (by kernel_rfl) (by kernel_rfl) (by kernel_rfl) (fun _ _ _ h => h) (by kernel_rfl) ?_ (hSall.out _ hb1) ?_
              rotate_left 1
              · intro v hv; obtain ⟨z0, z1, z2, z3, z4, z5, z6, z7, z8, z9⟩ := hv; go_simp; first | done | with_reducible rfl
              try simp only [Act.put, List.setIfInBounds_toArray, List.set_cons_zero, List.set_cons_succ]
              refine Ord.Till.take' 10 (some 99) (oi := _) (x := ?_) rfl rfl (by kernel_rfl) (by kernel_rfl) (by kernel_rfl) (by kernel_rfl) (fun _ _ _ h => h) (by kernel_rfl) ?_ (hSall.out _ hb1) ?_
              rotate_left 1
              · intro v hv; obtain ⟨z0, z1, z2, z3, z4, z5, z6, z7, z8, z9⟩ := hv; go_simp; first | done | with_reducible rfl
              try simp only [Act.put, List.setIfInBounds_toArray, List.set_cons_zero, List.set_cons_succ]
              refine Ord.Till.step 11 (by kernel_rfl) rfl (fun C hC => ?_)
              go_simp
              go_at_call 16
              refine (H2.out _ hb1).mono ?_
              rintro e y11 ⟨rfl, hc11⟩
              have hb2 := hb1.trans (hc11.mono hb1.size)
              clear hc11
              refine hC.out _ _ (fun _ => hSall.out _ hb2) ?_
              clear hC C
              try simp only [Act.put, List.setIfInBounds_toArray, List.set_cons_zero, List.set_cons_succ]
              refine Ord.Till.take' 12 (some 101) (oi := _) (x := ?_) rfl rfl (by kernel_rfl) (by kernel_rfl) (by kernel_rfl) (by kernel_rfl) (fun _ _ _ h => h) (by kernel_rfl) ?_ (hSall.out _ hb2) ?_
              rotate_left 1
              · intro v hv; obtain ⟨z0, z1, z2, z3, z4, z5, z6, z7, z8, z9⟩ := hv; go_simp; first | done | with_reducible rfl
              try simp only [Act.put, List.setIfInBounds_toArray, List.set_cons_zero, List.set_cons_succ]
              refine Ord.Till.take' 13 (some 102) (oi := _) (x := ?_) rfl rfl (by kernel_rfl) (by kernel_rfl) (by kernel_rfl) (by kernel_rfl) (fun _ _ _ h => h) (by kernel_rfl) ?_ (hSall.out _ hb2) ?_
              rotate_left 1
              · intro v hv; obtain ⟨z0, z1, z2, z3, z4, z5, z6, z7, z8, z9⟩ := hv; go_simp; first | done | with_reducible rfl
              try simp only [Act.put, List.setIfInBounds_toArray, List.set_cons_zero, List.set_cons_succ]
              refine Ord.Till.take' 14 (some 103) (oi := _) (x := ?_) rfl rfl (by kernel_rfl) (by kernel_rfl) (by kernel_rfl) (by kernel_rfl) (fun _ _ _ h => h) (by kernel_rfl) ?_ (hSall.out _ hb2) ?_
              rotate_left 1
              · intro v hv; obtain ⟨z0, z1, z2, z3, z4, z5, z6, z7, z8, z9⟩ := hv; go_simp; first | done | with_reducible rfl
              try simp only [Act.put, List.setIfInBounds_toArray, List.set_cons_zero, List.set_cons_succ]
              refine Ord.Till.take' 15 (some 104) (oi := _) (x := ?_) rfl rfl (by kernel_rfl) (by kernel_rfl) (by kernel_rfl) (by kernel_rfl) (fun _ _ _ h => h) (by kernel_rfl) ?_ (hSall.out _ hb2) ?_
              rotate_left 1
              · intro v hv; obtain ⟨z0, z1, z2, z3, z4, z5, z6, z7, z8, z9⟩ := hv; go_simp; first | done | with_reducible rfl
              try simp only [Act.put, List.setIfInBounds_toArray, List.set_cons_zero, List.set_cons_succ]
              refine Ord.Till.take' 16 (some 105) (oi := _) (x := ?_) rfl rfl (by kernel_rfl) (by kernel_rfl) (by kernel_rfl) (by kernel_rfl) (fun _ _ _ h => h) (by kernel_rfl) ?_ (hSall.out _ hb2) ?_
              rotate_left 1
              · intro v hv; obtain ⟨z0, z1, z2, z3, z4, z5, z6, z7, z8, z9⟩ := hv; go_simp; first | done | with_reducible rfl
              try simp only [Act.put, List.setIfInBounds_toArray, List.set_cons_zero, List.set_cons_succ]
              refine Ord.Till.take' 17 (some 106) (oi := _) (x := ?_) rfl rfl (by kernel_rfl) (by kernel_rfl) (by kernel_rfl) (by kernel_rfl) (fun _ _ _ h => h) (by kernel_rfl) ?_ (hSall.out _ hb2) ?_
              rotate_left 1
              · intro v hv; obtain ⟨z0, z1, z2, z3, z4, z5, z6, z7, z8, z9⟩ := hv; go_simp; first | done | with_reducible rfl
              try simp only [Act.put, List.setIfInBounds_toArray, List.set_cons_zero, List.set_cons_succ]
              refine Ord.Till.take' 18 (some 107) (oi := _) (x := ?_) rfl rfl (by kernel_rfl) (by kernel_rfl) (by kernel_rfl) (by kernel_rfl) (fun _ _ _ h => h) (by kernel_rfl) ?_ (hSall.out _ hb2) ?_
              rotate_left 1
              · intro v hv; obtain ⟨z0, z1, z2, z3, z4, z5, z6, z7, z8, z9⟩ := hv; go_simp; first | done | with_reducible rfl
              try simp only [Act.put, List.setIfInBounds_toArray, List.set_cons_zero, List.set_cons_succ]
              refine Ord.Till.take' 19 (some 108) (oi := _) (x := ?_) rfl rfl (by kernel_rfl) (by kernel_rfl) (by kernel_rfl) (by kernel_rfl) (fun _ _ _ h => h) (by kernel_rfl) ?_ (hSall.out _ hb2) ?_
              rotate_left 1
              · intro v hv; obtain ⟨z0, z1, z2, z3, z4, z5, z6, z7, z8, z9⟩ := hv; go_simp; first | done | with_reducible rfl
              try simp only [Act.put, List.setIfInBounds_toArray, List.set_cons_zero, List.set_cons_succ]
              refine Ord.Till.take' 21 (some 110) (oi := _) (x := ?_) rfl rfl (by kernel_rfl) (by kernel_rfl) (by kernel_rfl) (by kernel_rfl) (fun _ _ _ h => h) (by kernel_rfl) ?_ (hSall.out _ hb2) ?_
              rotate_left 1
              · intro v hv; obtain ⟨z0, z1, z2, z3, z4, z5, z6, z7, z8, z9⟩ := hv; go_simp; first | done | with_reducible rfl
              try simp only [Act.put, List.setIfInBounds_toArray, List.set_cons_zero, List.set_cons_succ]
              refine Ord.Till.step 20 (by kernel_rfl) rfl (fun C hC => ?_)
              go_simp
              go_at_call 17
              refine (H3.out _ hb2).mono ?_
              rintro e y20 ⟨rfl, hc20⟩
              have hb3 := hb2.trans (hc20.mono hb2.size)
              clear hc20
              refine hC.out _ _ (fun _ => hSall.out _ hb3) ?_
              clear hC C
              try simp only [Act.put, List.setIfInBounds_toArray, List.set_cons_zero, List.set_cons_succ]
              refine Ord.Till.step 22 (by kernel_rfl) rfl (fun C hC => ?_)
              go_simp
              go_at_call 18
              refine (H4.out _ hb3).mono ?_
              rintro e y22 ⟨rfl, hc22⟩
              have hb4 := hb3.trans (hc22.mono hb3.size)
              clear hc22
              refine hC.out _ _ (fun _ => hSall.out _ hb4) ?_
              clear hC C
              try simp only [Act.put, List.setIfInBounds_toArray, List.set_cons_zero, List.set_cons_succ]
              refine Ord.Till.take' 23 (some 112) (oi := _) (x := ?_) rfl rfl (by kernel_rfl) (by kernel_rfl) (by kernel_rfl) (by kernel_rfl) (fun _ _ _ h => h) (by kernel_rfl) ?_ (hSall.out _ hb4) ?_
              rotate_left 1
              · intro v hv; obtain ⟨z0, z1, z2, z3, z4, z5, z6, z7, z8, z9⟩ := hv; go_simp; first | done | with_reducible rfl
              try simp only [Act.put, List.setIfInBounds_toArray, List.set_cons_zero, List.set_cons_succ]
              refine Ord.Till.take' 24 (some 113) (oi := _) (x := ?_) rfl rfl (by kernel_rfl) (by kernel_rfl) (by kernel_rfl) (by kernel_rfl) (fun _ _ _ h => h) (by kernel_rfl) ?_ (hSall.out _ hb4) ?_
              rotate_left 1
              · intro v hv; obtain ⟨z0, z1, z2, z3, z4, z5, z6, z7, z8, z9⟩ := hv; go_simp; first | done | with_reducible rfl
              try simp only [Act.put, List.setIfInBounds_toArray, List.set_cons_zero, List.set_cons_succ]
              refine Ord.Till.take' 25 (some 114) (oi := _) (x := ?_) rfl rfl (by kernel_rfl) (by kernel_rfl) (by kernel_rfl) (by kernel_rfl) (fun _ _ _ h => h) (by kernel_rfl) ?_ (hSall.out _ hb4) ?_
              rotate_left 1
              · intro v hv; obtain ⟨z0, z1, z2, z3, z4, z5, z6, z7, z8, z9⟩ := hv; go_simp; first | done | with_reducible rfl
              try simp only [Act.put, List.setIfInBounds_toArray, List.set_cons_zero, List.set_cons_succ]
              refine Ord.Till.take' 26 (some 115) (oi := _) (x := ?_) rfl rfl (by kernel_rfl) (by kernel_rfl) (by kernel_rfl) (by kernel_rfl) (fun _ _ _ h => h) (by kernel_rfl) ?_ (hSall.out _ hb4) ?_
              rotate_left 1
              · intro v hv; obtain ⟨z0, z1, z2, z3, z4, z5, z6, z7, z8, z9⟩ := hv; go_simp; first | done | with_reducible rfl
              try simp only [Act.put, List.setIfInBounds_toArray, List.set_cons_zero, List.set_cons_succ]
              refine Ord.Till.take' 27 (some 116) (oi := _) (x := ?_) rfl rfl (by kernel_rfl) (by kernel_rfl) (by kernel_rfl) (by kernel_rfl) (fun _ _ _ h => h) (by kernel_rfl) ?_ (hSall.out _ hb4) ?_
              rotate_left 1
              · intro v hv; obtain ⟨z0, z1, z2, z3, z4, z5, z6, z7, z8, z9⟩ := hv; go_simp; first | done | with_reducible rfl
              try simp only [Act.put, List.setIfInBounds_toArray, List.set_cons_zero, List.set_cons_succ]
              refine Ord.Till.take' 28 (some 117) (oi := _) (x := ?_) rfl rfl (by kernel_rfl) (by kernel_rfl) (by kernel_rfl) (by kernel_rfl) (fun _ _ _ h => h) (by kernel_rfl) ?_ (hSall.out _ hb4) ?_
              rotate_left 1
              · intro v hv; obtain ⟨z0, z1, z2, z3, z4, z5, z6, z7, z8, z9⟩ := hv; go_simp; first | done | with_reducible rfl
              try simp only [Act.put, List.setIfInBounds_toArray, List.set_cons_zero, List.set_cons_succ]
              refine Ord.Till.take' 29 (some 118) (oi := _) (x := ?_) rfl rfl (by kernel_rfl) (by kernel_rfl) (by kernel_rfl) (by kernel_rfl) (fun _ _ _ h => h) (by kernel_rfl) ?_ (hSall.out _ hb4) ?_
              rotate_left 1
              · intro v hv; obtain ⟨z0, z1, z2, z3, z4, z5, z6, z7, z8, z9⟩ := hv; go_simp; first | done | with_reducible rfl
              try simp only [Act.put, List.setIfInBounds_toArray, List.set_cons_zero, List.set_cons_succ]
              refine Ord.Till.take' 30 (some 119) (oi := _) (x := ?_) rfl rfl (by kernel_rfl) (by kernel_rfl) (by kernel_rfl) (by kernel_rfl) (fun _ _ _ h => h) (by kernel_rfl) ?_ (hSall.out _ hb4) ?_
              rotate_left 1
              · intro v hv; obtain ⟨z0, z1, z2, z3, z4, z5, z6, z7, z8, z9⟩ := hv; go_simp; first | done | with_reducible rfl
              try simp only [Act.put, List.setIfInBounds_toArray, List.set_cons_zero, List.set_cons_succ]
              refine Ord.Till.take' 31 (some 120) (oi := _) (x := ?_) rfl rfl (by kernel_rfl) (by kernel_rfl) (by kernel_rfl) (by kernel_rfl) (fun _ _ _ h => h) (by kernel_rfl) ?_ (hSall.out _ hb4) ?_
              rotate_left 1
              · intro v hv; obtain ⟨z0, z1, z2, z3, z4, z5, z6, z7, z8, z9⟩ := hv; go_simp; first | done | with_reducible rfl
              try simp only [Act.put, List.setIfInBounds_toArray, List.set_cons_zero, List.set_cons_succ]
              refine Ord.Till.take' 32 (some 121) (oi := _) (x := ?_) rfl rfl (by kernel_rfl) (by kernel_rfl) (by kernel_rfl) (by kernel_rfl) (fun _ _ _ h => h) (by kernel_rfl) ?_ (hSall.out _ hb4) ?_
              rotate_left 1
              · intro v hv; obtain ⟨z0, z1, z2, z3, z4, z5, z6, z7, z8, z9⟩ := hv; go_simp; first | done | with_reducible rfl
              try simp only [Act.put, List.setIfInBounds_toArray, List.set_cons_zero, List.set_cons_succ]
              refine Ord.Till.take' 33 (some 122) (oi := _) (x := ?_) rfl rfl (by kernel_rfl) (by kernel_rfl) (by kernel_rfl) (by kernel_rfl) (fun _ _ _ h => h) (by kernel_rfl) ?_ (hSall.out _ hb4) ?_
              rotate_left 1
              · intro v hv; obtain ⟨z0, z1, z2, z3, z4, z5, z6, z7, z8, z9⟩ := hv; go_simp; first | done | with_reducible rfl
              try simp only [Act.put, List.setIfInBounds_toArray, List.set_cons_zero, List.set_cons_succ]
              refine Ord.Till.take' 34 (some 123) (oi := _) (x := ?_) rfl rfl (by kernel_rfl) (by kernel_rfl) (by kernel_rfl) (by kernel_rfl) (fun _ _ _ h => h) (by kernel_rfl) ?_ (hSall.out _ hb4) ?_
              rotate_left 1
              · intro v hv; obtain ⟨z0, z1, z2, z3, z4, z5, z6, z7, z8, z9⟩ := hv; go_simp; first | done | with_reducible rfl
              try simp only [Act.put, List.setIfInBounds_toArray, List.set_cons_zero, List.set_cons_succ]
              refine Ord.Till.take' 35 (some 124) (oi := _) (x := ?_) rfl rfl (by kernel_rfl) (by kernel_rfl) (by kernel_rfl) (by kernel_rfl) (fun _ _ _ h => h) (by kernel_rfl) ?_ (hSall.out _ hb4) ?_
              rotate_left 1
              · intro v hv; obtain ⟨z0, z1, z2, z3, z4, z5, z6, z7, z8, z9⟩ := hv; go_simp; first | done | with_reducible rfl
              try simp only [Act.put, List.setIfInBounds_toArray, List.set_cons_zero, List.set_cons_succ]
              refine Ord.Till.take' 36 (some 125) (oi := _) (x := ?_) rfl rfl (by kernel_rfl) (by kernel_rfl) (by kernel_rfl) (by kernel_rfl) (fun _ _ _ h => h) (by kernel_rfl) ?_ (hSall.out _ hb4) ?_
              rotate_left 1
              · intro v hv; obtain ⟨z0, z1, z2, z3, z4, z5, z6, z7, z8, z9⟩ := hv; go_simp; first | done | with_reducible rfl
              try simp only [Act.put, List.setIfInBounds_toArray, List.set_cons_zero, List.set_cons_succ]
              refine Ord.Till.take' 37 (some 126) (oi := _) (x := ?_) rfl rfl (by kernel_rfl) (by kernel_rfl) (by kernel_rfl) (by kernel_rfl) (fun _ _ _ h => h) (by kernel_rfl) ?_ (hSall.out _ hb4) ?_
              rotate_left 1
              · intro v hv; obtain ⟨z0, z1, z2, z3, z4, z5, z6, z7, z8, z9⟩ := hv; go_simp; first | done | with_reducible rfl
              try simp only [Act.put, List.setIfInBounds_toArray, List.set_cons_zero, List.set_cons_succ]
              refine Ord.Till.take' 38 (some 6) (oi := _) (x := ?_) rfl rfl (by kernel_rfl) (by kernel_rfl) (by kernel_rfl) (by kernel_rfl) (fun _ _ _ h => h) (by kernel_rfl) ?_ (hSall.out _ hb4) ?_
              rotate_left 1
              · intro v hv; obtain ⟨z0, z1, z2, z3, z4, z5, z6, z7, z8, z9⟩ := hv; go_simp; first | done | with_reducible rfl
              try simp only [Act.put, List.setIfInBounds_toArray, List.set_cons_zero, List.set_cons_succ]
              refine Ord.Till.done (by kernel_rfl) ?_ _
              go_wp2_with fail
              go_ret
              exact ⟨rfl, (HiV.out.on hb4).b⟩
            · have Hf : Hid (has xs s = true) := hid (hG.out.1 rfl)
              obtain rfl : hb = true := by rw [← Hhb.out]; exact Hf.out
              have hbX0 : Below V.heap.size V wr.drew := hbr.drew
              have H1 : Hid (∀ W, Below V.heap.size V W → Calls Try.prog 15 #[.slice A3 n3 c3, .slice A4 n4 c4] W fun e W' => e = .returned (.bool true) ∧ ∃ k, W' = W.drewN k) := hid fun W hW => by
                have q := Dec.same_any 15 rfl V.heap.size V.heap.size A3 A4 n3 c3 n4 c4 _ _ W (hr3.below hW) (hr4.below hW) hn3
                rw [beq_self_eq_true] at q
                exact q
              have H2 : Hid (∀ W, Below V.heap.size V W → Calls Try.prog 16 #[.agg #[.slice A5 n5 c5, .slice B5 m5 d5], .agg #[.slice A6 n6 c6, .slice B6 m6 d6]] W fun e W' => e = .returned (.bool true) ∧ Below W.heap.size W W') := hid fun W hW => by
                have q := rsame_any V.heap.size A5 B5 A6 B6 n5 c5 m5 d5 n6 c6 m6 d6 _ _ _ _ W (hs5.below hW) (hs6.below hW) (hB5.below hW) (hB6.below hW) hW.size (by omega) hm5
                rw [sameS_eq.2 rfl, beq_self_eq_true] at q
                exact q
              have H3 : Hid (∀ W, Below V.heap.size V W → Calls Try.prog 17 #[.agg #[.slice A n c, .slice B m d]] W fun e W' => e = .returned (.bool (validO xs)) ∧ Below W.heap.size W W') := hid fun W hW =>
                valid_any w.heap.size A B n c m d xs W (h.below (iV.on hW).b) (iV.on hW).b.size
              have H4 : Hid (∀ W, Below V.heap.size V W → Calls Try.prog 18 #[.agg #[.slice A n c, .slice B m d]] W fun e W' => e = .returned (.bool (validO xs)) ∧ Below W.heap.size W W') := hid fun W hW =>
                rvalid_any w.heap.size A B n c m d xs W (h.below (iV.on hW).b) (iV.on hW).b.size (by omega) hnc
              have HiV := hid iV
              generalize validO xs = vb at *
              go_upto_region 16 with fail
              clear hr3 hr4 hs5 hs6 hB5 hB6
              refine Ord.Till.begin (fun W => Fin w gp gq gs A n c B m d A5 B5 A6 B6 n5 c5 m5 d5 n6 c6 m6 d6 f0 f1 f2 f3 W) 60 (by kernel_rfl) ?_
              refine Ord.Till.take' 0 (some 89) (oi := _) (x := ?_) rfl rfl (by kernel_rfl) (by kernel_rfl) (by kernel_rfl) (by kernel_rfl) (fun _ _ _ h => h) (by kernel_rfl) ?_ (hSall.out _ hbX0) ?_
              rotate_left 1
              · intro v hv; obtain ⟨z0, z1, z2, z3, z4, z5, z6, z7, z8, z9⟩ := hv; go_simp; first | done | with_reducible rfl
              try simp only [Act.put, List.setIfInBounds_toArray, List.set_cons_zero, List.set_cons_succ]
              refine Ord.Till.take' 1 (some 90) (oi := _) (x := ?_) rfl rfl (by kernel_rfl) (by kernel_rfl) (by kernel_rfl) (by kernel_rfl) (fun _ _ _ h => h) (by kernel_rfl) ?_ (hSall.out _ hbX0) ?_
              rotate_left 1
              · intro v hv; obtain ⟨z0, z1, z2, z3, z4, z5, z6, z7, z8, z9⟩ := hv; go_simp; first | done | with_reducible rfl
              try simp only [Act.put, List.setIfInBounds_toArray, List.set_cons_zero, List.set_cons_succ]
              refine Ord.Till.step 2 (by kernel_rfl) rfl (fun C hC => ?_)
              go_simp
              go_at_call 15
              refine (H1.out _ hbX0).mono ?_
              rintro e y2 ⟨rfl, k2, hw2⟩
              have hb1 : Below V.heap.size V y2 := by rw [hw2]; exact hbX0.trans (Obj.below_drewN _ _)
              clear hw2
              refine hC.out _ _ (fun _ => hSall.out _ hb1) ?_
              clear hC C
              try simp only [Act.put, List.setIfInBounds_toArray, List.set_cons_zero, List.set_cons_succ]
              refine Ord.Till.take' 3 (some 92) (oi := _) (x := ?_) rfl rfl (by kernel_rfl) (by kernel_rfl) (by kernel_rfl) (by kernel_rfl) (fun _ _ _ h => h) (by kernel_rfl) ?_ (hSall.out _ hb1) ?_
              rotate_left 1
              · intro v hv; obtain ⟨z0, z1, z2, z3, z4, z5, z6, z7, z8, z9⟩ := hv; go_simp; first | done | with_reducible rfl
              try simp only [Act.put, List.setIfInBounds_toArray, List.set_cons_zero, List.set_cons_succ]
              refine Ord.Till.take' 4 (some 93) (oi := _) (x := ?_) rfl rfl (by kernel_rfl) (by kernel_rfl) (by kernel_rfl) (by kernel_rfl) (fun _ _ _ h => h) (by kernel_rfl) ?_ (hSall.out _ hb1) ?_
              rotate_left 1
              · intro v hv; obtain ⟨z0, z1, z2, z3, z4, z5, z6, z7, z8, z9⟩ := hv; go_simp; first | done | with_reducible rfl
              try simp only [Act.put, List.setIfInBounds_toArray, List.set_cons_zero, List.set_cons_succ]
              refine Ord.Till.take' 5 (some 94) (oi := _) (x := ?_) rfl rfl (by kernel_rfl) (by kernel_rfl) (by kernel_rfl) (by kernel_rfl) (fun _ _ _ h => h) (by kernel_rfl) ?_ (hSall.out _ hb1) ?_
              rotate_left 1
              · intro v hv; obtain ⟨z0, z1, z2, z3, z4, z5, z6, z7, z8, z9⟩ := hv; go_simp; first | done | with_reducible rfl
              try simp only [Act.put, List.setIfInBounds_toArray, List.set_cons_zero, List.set_cons_succ]
              refine Ord.Till.take' 6 (some 95) (oi := _) (x := ?_) rfl rfl (by kernel_rfl) (by kernel_rfl) (by kernel_rfl) (by kernel_rfl) (fun _ _ _ h => h) (by kernel_rfl) ?_ (hSall.out _ hb1) ?_
              rotate_left 1
              · intro v hv; obtain ⟨z0, z1, z2, z3, z4, z5, z6, z7, z8, z9⟩ := hv; go_simp; first | done | with_reducible rfl
              try simp only [Act.put, List.setIfInBounds_toArray, List.set_cons_zero, List.set_cons_succ]
              refine Ord.Till.take' 7 (some 96) (oi := _) (x := ?_) rfl rfl (by kernel_rfl) (by kernel_rfl) (by kernel_rfl) (by kernel_rfl) (fun _ _ _ h => h) (by kernel_rfl) ?_ (hSall.out _ hb1) ?_
              rotate_left 1
              · intro v hv; obtain ⟨z0, z1, z2, z3, z4, z5, z6, z7, z8, z9⟩ := hv; go_simp; first | done | with_reducible rfl
              try simp only [Act.put, List.setIfInBounds_toArray, List.set_cons_zero, List.set_cons_succ]
              refine Ord.Till.take' 8 (some 97) (oi := _) (x := ?_) rfl rfl (by kernel_rfl) (by kernel_rfl) (by kernel_rfl) (by kernel_rfl) (fun _ _ _ h => h) (by kernel_rfl) ?_ (hSall.out _ hb1) ?_
              rotate_left 1
              · intro v hv; obtain ⟨z0, z1, z2, z3, z4, z5, z6, z7, z8, z9⟩ := hv; go_simp; first | done | with_reducible rfl
              try simp only [Act.put, List.setIfInBounds_toArray, List.set_cons_zero, List.set_cons_succ]
              refine Ord.Till.take' 9 (some 98) (oi := _) (x := ?_) rfl rfl (by kernel_rfl) (by kernel_rfl) (by kernel_rfl) (by kernel_rfl) (fun _ _ _ h => h) (by kernel_rfl) ?_ (hSall.out _ hb1) ?_
              rotate_left 1
              · intro v hv; obtain ⟨z0, z1, z2, z3, z4, z5, z6, z7, z8, z9⟩ := hv; go_simp; first | done | with_reducible rfl
              try simp only [Act.put, List.setIfInBounds_toArray, List.set_cons_zero, List.set_cons_succ]
              refine Ord.Till.take' 10 (some 99) (oi := _) (x := ?_) rfl rfl (by kernel_rfl) (by kernel_rfl) (by kernel_rfl) (by kernel_rfl) (fun _ _ _ h => h) (by kernel_rfl) ?_ (hSall.out _ hb1) ?_
              rotate_left 1
              · intro v hv; obtain ⟨z0, z1, z2, z3, z4, z5, z6, z7, z8, z9⟩ := hv; go_simp; first | done | with_reducible rfl
              try simp only [Act.put, List.setIfInBounds_toArray, List.set_cons_zero, List.set_cons_succ]
              refine Ord.Till.step 11 (by kernel_rfl) rfl (fun C hC => ?_)
              go_simp
              go_at_call 16
              refine (H2.out _ hb1).mono ?_
              rintro e y11 ⟨rfl, hc11⟩
              have hb2 := hb1.trans (hc11.mono hb1.size)
              clear hc11
              refine hC.out _ _ (fun _ => hSall.out _ hb2) ?_
              clear hC C
              try simp only [Act.put, List.setIfInBounds_toArray, List.set_cons_zero, List.set_cons_succ]
              refine Ord.Till.take' 12 (some 101) (oi := _) (x := ?_) rfl rfl (by kernel_rfl) (by kernel_rfl) (by kernel_rfl) (by kernel_rfl) (fun _ _ _ h => h) (by kernel_rfl) ?_ (hSall.out _ hb2) ?_
              rotate_left 1
              · intro v hv; obtain ⟨z0, z1, z2, z3, z4, z5, z6, z7, z8, z9⟩ := hv; go_simp; first | done | with_reducible rfl
              try simp only [Act.put, List.setIfInBounds_toArray, List.set_cons_zero, List.set_cons_succ]
              refine Ord.Till.take' 13 (some 102) (oi := _) (x := ?_) rfl rfl (by kernel_rfl) (by kernel_rfl) (by kernel_rfl) (by kernel_rfl) (fun _ _ _ h => h) (by kernel_rfl) ?_ (hSall.out _ hb2) ?_
              rotate_left 1
              · intro v hv; obtain ⟨z0, z1, z2, z3, z4, z5, z6, z7, z8, z9⟩ := hv; go_simp; first | done | with_reducible rfl
              try simp only [Act.put, List.setIfInBounds_toArray, List.set_cons_zero, List.set_cons_succ]
              refine Ord.Till.take' 14 (some 103) (oi := _) (x := ?_) rfl rfl (by kernel_rfl) (by kernel_rfl) (by kernel_rfl) (by kernel_rfl) (fun _ _ _ h => h) (by kernel_rfl) ?_ (hSall.out _ hb2) ?_
              rotate_left 1
              · intro v hv; obtain ⟨z0, z1, z2, z3, z4, z5, z6, z7, z8, z9⟩ := hv; go_simp; first | done | with_reducible rfl
              try simp only [Act.put, List.setIfInBounds_toArray, List.set_cons_zero, List.set_cons_succ]
              refine Ord.Till.take' 15 (some 104) (oi := _) (x := ?_) rfl rfl (by kernel_rfl) (by kernel_rfl) (by kernel_rfl) (by kernel_rfl) (fun _ _ _ h => h) (by kernel_rfl) ?_ (hSall.out _ hb2) ?_
              rotate_left 1
              · intro v hv; obtain ⟨z0, z1, z2, z3, z4, z5, z6, z7, z8, z9⟩ := hv; go_simp; first | done | with_reducible rfl
              try simp only [Act.put, List.setIfInBounds_toArray, List.set_cons_zero, List.set_cons_succ]
              refine Ord.Till.take' 16 (some 105) (oi := _) (x := ?_) rfl rfl (by kernel_rfl) (by kernel_rfl) (by kernel_rfl) (by kernel_rfl) (fun _ _ _ h => h) (by kernel_rfl) ?_ (hSall.out _ hb2) ?_
              rotate_left 1
              · intro v hv; obtain ⟨z0, z1, z2, z3, z4, z5, z6, z7, z8, z9⟩ := hv; go_simp; first | done | with_reducible rfl
              try simp only [Act.put, List.setIfInBounds_toArray, List.set_cons_zero, List.set_cons_succ]
              refine Ord.Till.take' 17 (some 106) (oi := _) (x := ?_) rfl rfl (by kernel_rfl) (by kernel_rfl) (by kernel_rfl) (by kernel_rfl) (fun _ _ _ h => h) (by kernel_rfl) ?_ (hSall.out _ hb2) ?_
              rotate_left 1
              · intro v hv; obtain ⟨z0, z1, z2, z3, z4, z5, z6, z7, z8, z9⟩ := hv; go_simp; first | done | with_reducible rfl
              try simp only [Act.put, List.setIfInBounds_toArray, List.set_cons_zero, List.set_cons_succ]
              refine Ord.Till.take' 18 (some 107) (oi := _) (x := ?_) rfl rfl (by kernel_rfl) (by kernel_rfl) (by kernel_rfl) (by kernel_rfl) (fun _ _ _ h => h) (by kernel_rfl) ?_ (hSall.out _ hb2) ?_
              rotate_left 1
              · intro v hv; obtain ⟨z0, z1, z2, z3, z4, z5, z6, z7, z8, z9⟩ := hv; go_simp; first | done | with_reducible rfl
              try simp only [Act.put, List.setIfInBounds_toArray, List.set_cons_zero, List.set_cons_succ]
              refine Ord.Till.take' 19 (some 108) (oi := _) (x := ?_) rfl rfl (by kernel_rfl) (by kernel_rfl) (by kernel_rfl) (by kernel_rfl) (fun _ _ _ h => h) (by kernel_rfl) ?_ (hSall.out _ hb2) ?_
              rotate_left 1
              · intro v hv; obtain ⟨z0, z1, z2, z3, z4, z5, z6, z7, z8, z9⟩ := hv; go_simp; first | done | with_reducible rfl
              try simp only [Act.put, List.setIfInBounds_toArray, List.set_cons_zero, List.set_cons_succ]
              refine Ord.Till.take' 21 (some 110) (oi := _) (x := ?_) rfl rfl (by kernel_rfl) (by kernel_rfl) (by kernel_rfl) (by kernel_rfl) (fun _ _ _ h => h) (by kernel_rfl) ?_ (hSall.out _ hb2) ?_
              rotate_left 1
              · intro v hv; obtain ⟨z0, z1, z2, z3, z4, z5, z6, z7, z8, z9⟩ := hv; go_simp; first | done | with_reducible rfl
              try simp only [Act.put, List.setIfInBounds_toArray, List.set_cons_zero, List.set_cons_succ]
              refine Ord.Till.step 20 (by kernel_rfl) rfl (fun C hC => ?_)
              go_simp
              go_at_call 17
              refine (H3.out _ hb2).mono ?_
              rintro e y20 ⟨rfl, hc20⟩
              have hb3 := hb2.trans (hc20.mono hb2.size)
              clear hc20
              refine hC.out _ _ (fun _ => hSall.out _ hb3) ?_
              clear hC C
              try simp only [Act.put, List.setIfInBounds_toArray, List.set_cons_zero, List.set_cons_succ]
              refine Ord.Till.step 22 (by kernel_rfl) rfl (fun C hC => ?_)
              go_simp
              go_at_call 18
              refine (H4.out _ hb3).mono ?_
              rintro e y22 ⟨rfl, hc22⟩
              have hb4 := hb3.trans (hc22.mono hb3.size)
              clear hc22
              refine hC.out _ _ (fun _ => hSall.out _ hb4) ?_
              clear hC C
              try simp only [Act.put, List.setIfInBounds_toArray, List.set_cons_zero, List.set_cons_succ]
              refine Ord.Till.take' 23 (some 112) (oi := _) (x := ?_) rfl rfl (by kernel_rfl) (by kernel_rfl) (by kernel_rfl) (by kernel_rfl) (fun _ _ _ h => h) (by kernel_rfl) ?_ (hSall.out _ hb4) ?_
              rotate_left 1
              · intro v hv; obtain ⟨z0, z1, z2, z3, z4, z5, z6, z7, z8, z9⟩ := hv; go_simp; first | done | with_reducible rfl
              try simp only [Act.put, List.setIfInBounds_toArray, List.set_cons_zero, List.set_cons_succ]
              refine Ord.Till.take' 24 (some 113) (oi := _) (x := ?_) rfl rfl (by kernel_rfl) (by kernel_rfl) (by kernel_rfl) (by kernel_rfl) (fun _ _ _ h => h) (by kernel_rfl) ?_ (hSall.out _ hb4) ?_
              rotate_left 1
              · intro v hv; obtain ⟨z0, z1, z2, z3, z4, z5, z6, z7, z8, z9⟩ := hv; go_simp; first | done | with_reducible rfl
              try simp only [Act.put, List.setIfInBounds_toArray, List.set_cons_zero, List.set_cons_succ]
              refine Ord.Till.take' 25 (some 114) (oi := _) (x := ?_) rfl rfl (by kernel_rfl) (by kernel_rfl) (by kernel_rfl) (by kernel_rfl) (fun _ _ _ h => h) (by kernel_rfl) ?_ (hSall.out _ hb4) ?_
              rotate_left 1
              · intro v hv; obtain ⟨z0, z1, z2, z3, z4, z5, z6, z7, z8, z9⟩ := hv; go_simp; first | done | with_reducible rfl
              try simp only [Act.put, List.setIfInBounds_toArray, List.set_cons_zero, List.set_cons_succ]
              refine Ord.Till.take' 26 (some 115) (oi := _) (x := ?_) rfl rfl (by kernel_rfl) (by kernel_rfl) (by kernel_rfl) (by kernel_rfl) (fun _ _ _ h => h) (by kernel_rfl) ?_ (hSall.out _ hb4) ?_
              rotate_left 1
              · intro v hv; obtain ⟨z0, z1, z2, z3, z4, z5, z6, z7, z8, z9⟩ := hv; go_simp; first | done | with_reducible rfl
              try simp only [Act.put, List.setIfInBounds_toArray, List.set_cons_zero, List.set_cons_succ]
              refine Ord.Till.take' 27 (some 116) (oi := _) (x := ?_) rfl rfl (by kernel_rfl) (by kernel_rfl) (by kernel_rfl) (by kernel_rfl) (fun _ _ _ h => h) (by kernel_rfl) ?_ (hSall.out _ hb4) ?_
              rotate_left 1
              · intro v hv; obtain ⟨z0, z1, z2, z3, z4, z5, z6, z7, z8, z9⟩ := hv; go_simp; first | done | with_reducible rfl
              try simp only [Act.put, List.setIfInBounds_toArray, List.set_cons_zero, List.set_cons_succ]
              refine Ord.Till.take' 28 (some 117) (oi := _) (x := ?_) rfl rfl (by kernel_rfl) (by kernel_rfl) (by kernel_rfl) (by kernel_rfl) (fun _ _ _ h => h) (by kernel_rfl) ?_ (hSall.out _ hb4) ?_
              rotate_left 1
              · intro v hv; obtain ⟨z0, z1, z2, z3, z4, z5, z6, z7, z8, z9⟩ := hv; go_simp; first | done | with_reducible rfl
              try simp only [Act.put, List.setIfInBounds_toArray, List.set_cons_zero, List.set_cons_succ]
              refine Ord.Till.take' 29 (some 118) (oi := _) (x := ?_) rfl rfl (by kernel_rfl) (by kernel_rfl) (by kernel_rfl) (by kernel_rfl) (fun _ _ _ h => h) (by kernel_rfl) ?_ (hSall.out _ hb4) ?_
              rotate_left 1
              · intro v hv; obtain ⟨z0, z1, z2, z3, z4, z5, z6, z7, z8, z9⟩ := hv; go_simp; first | done | with_reducible rfl
              try simp only [Act.put, List.setIfInBounds_toArray, List.set_cons_zero, List.set_cons_succ]
              refine Ord.Till.take' 30 (some 119) (oi := _) (x := ?_) rfl rfl (by kernel_rfl) (by kernel_rfl) (by kernel_rfl) (by kernel_rfl) (fun _ _ _ h => h) (by kernel_rfl) ?_ (hSall.out _ hb4) ?_
              rotate_left 1
              · intro v hv; obtain ⟨z0, z1, z2, z3, z4, z5, z6, z7, z8, z9⟩ := hv; go_simp; first | done | with_reducible rfl
              try simp only [Act.put, List.setIfInBounds_toArray, List.set_cons_zero, List.set_cons_succ]
              refine Ord.Till.take' 31 (some 120) (oi := _) (x := ?_) rfl rfl (by kernel_rfl) (by kernel_rfl) (by kernel_rfl) (by kernel_rfl) (fun _ _ _ h => h) (by kernel_rfl) ?_ (hSall.out _ hb4) ?_
              rotate_left 1
              · intro v hv; obtain ⟨z0, z1, z2, z3, z4, z5, z6, z7, z8, z9⟩ := hv; go_simp; first | done | with_reducible rfl
              try simp only [Act.put, List.setIfInBounds_toArray, List.set_cons_zero, List.set_cons_succ]
              refine Ord.Till.take' 32 (some 121) (oi := _) (x := ?_) rfl rfl (by kernel_rfl) (by kernel_rfl) (by kernel_rfl) (by kernel_rfl) (fun _ _ _ h => h) (by kernel_rfl) ?_ (hSall.out _ hb4) ?_
              rotate_left 1
              · intro v hv; obtain ⟨z0, z1, z2, z3, z4, z5, z6, z7, z8, z9⟩ := hv; go_simp; first | done | with_reducible rfl
              try simp only [Act.put, List.setIfInBounds_toArray, List.set_cons_zero, List.set_cons_succ]
              refine Ord.Till.skip' 33 (some 122) (oi := _) rfl rfl (by kernel_rfl) (by kernel_rfl) (by kernel_rfl) (by kernel_rfl) (fun _ _ _ h => h) (by kernel_rfl) (hSall.out _ hb4) ?_
              try simp only [Act.put, List.setIfInBounds_toArray, List.set_cons_zero, List.set_cons_succ]
              refine Ord.Till.skip' 34 (some 123) (oi := _) rfl rfl (by kernel_rfl) (by kernel_rfl) (by kernel_rfl) (by kernel_rfl) (fun _ _ _ h => h) (by kernel_rfl) (hSall.out _ hb4) ?_
              try simp only [Act.put, List.setIfInBounds_toArray, List.set_cons_zero, List.set_cons_succ]
              refine Ord.Till.skip' 35 (some 124) (oi := _) rfl rfl (by kernel_rfl) (by kernel_rfl) (by kernel_rfl) (by kernel_rfl) (fun _ _ _ h => h) (by kernel_rfl) (hSall.out _ hb4) ?_
              try simp only [Act.put, List.setIfInBounds_toArray, List.set_cons_zero, List.set_cons_succ]
              refine Ord.Till.take' 36 (some 125) (oi := _) (x := ?_) rfl rfl (by kernel_rfl) (by kernel_rfl) (by kernel_rfl) (by kernel_rfl) (fun _ _ _ h => h) (by kernel_rfl) ?_ (hSall.out _ hb4) ?_
              rotate_left 1
              · intro v hv; obtain ⟨z0, z1, z2, z3, z4, z5, z6, z7, z8, z9⟩ := hv; go_simp; first | done | with_reducible rfl
              try simp only [Act.put, List.setIfInBounds_toArray, List.set_cons_zero, List.set_cons_succ]
              refine Ord.Till.take' 37 (some 126) (oi := _) (x := ?_) rfl rfl (by kernel_rfl) (by kernel_rfl) (by kernel_rfl) (by kernel_rfl) (fun _ _ _ h => h) (by kernel_rfl) ?_ (hSall.out _ hb4) ?_
              rotate_left 1
              · intro v hv; obtain ⟨z0, z1, z2, z3, z4, z5, z6, z7, z8, z9⟩ := hv; go_simp; first | done | with_reducible rfl
              try simp only [Act.put, List.setIfInBounds_toArray, List.set_cons_zero, List.set_cons_succ]
              refine Ord.Till.take' 38 (some 6) (oi := _) (x := ?_) rfl rfl (by kernel_rfl) (by kernel_rfl) (by kernel_rfl) (by kernel_rfl) (fun _ _ _ h => h) (by kernel_rfl) ?_ (hSall.out _ hb4) ?_
              rotate_left 1
              · intro v hv; obtain ⟨z0, z1, z2, z3, z4, z5, z6, z7, z8, z9⟩ := hv; go_simp; first | done | with_reducible rfl
              try simp only [Act.put, List.setIfInBounds_toArray, List.set_cons_zero, List.set_cons_succ]
              refine Ord.Till.done (by kernel_rfl) ?_ _
              go_wp2_with fail
              go_ret
              exact ⟨rfl, (HiV.out.on hb4).b⟩

set_option maxRecDepth 100000 in
theorem proved : Rows.ObjsymMatchesReferenceSaid :=
  OpenClaim.holds_of_wide 3 Try.f3 rfl rfl rfl rfl rfl rfl rfl ⟨rfl, rfl, rfl, rfl, rfl⟩ rfl rfl rfl rfl rfl (by kernel_rfl) Try.func3 (by kernel_rfl)
    (of_decide_eq_true (by kernel_rfl)) (by unfold Func.isWrapper; rw [if_neg (of_decide_eq_false (by kernel_rfl))]; exact ⟨rfl, rfl⟩)
    (fun os started H enc _ => lifted (started := started) (s := Rows.objsymMatchesReferenceSpec) rfl
      (fun ds h => by match ds, h with | [_, _, _], _ => rfl) (by kernel_rfl)
      (by kernel_rfl) (by kernel_rfl) Try.func3
      (ChangeSpec.witness6 (enc := enc) (C := Try.checked) false ⟨#[], #[.agg #[.slice none 0 0, .slice none 0 0], .slice none 0 0, .string ⟨#[]⟩], []⟩ 8 (by kernel_rfl) (by kernel_rfl) (by kernel_rfl) (by kernel_rfl))
      (fun W base args ds p h => by
        obtain ⟨hval, hA, _⟩ := h
        rw [show Try.f3.params = #[25, 23, 9] from by kernel_rfl] at hA hval
        obtain ⟨v0, vs0, d0, ds0, p0, q0, hargs, rfl, rfl, k0, r0⟩ := trodAll_cons hA
        obtain ⟨v1, vs1, d1, ds1, p1, q1, rfl, rfl, rfl, k1, r1⟩ := trodAll_cons r0
        obtain ⟨v2, vs2, d2, ds2, p2, q2, rfl, rfl, rfl, k2, r2⟩ := trodAll_cons r1
        obtain ⟨rfl, rfl, rfl⟩ := trodAll_nil r2
        obtain rfl : args = #[v0, v1, v2] := by cases args; simp_all
        obtain ⟨A0, n0, c0, B0, m0, e0, l0, b0, rfl, h0, g0, i0, j0, s0, t0⟩ := open_obj (hval 0 _ v0 rfl rfl) k0
        obtain ⟨A1, n1, c1, l1, rfl, h1, m1, g1⟩ := open_bytes (hval 1 _ v1 rfl rfl) k1
        obtain ⟨a2, rfl, u2⟩ := open_str (hval 2 _ v2 rfl rfl) k2
        exact walk W A0 n0 c0 B0 m0 e0 l0 b0 h0 g0 i0 j0 s0 t0 A1 n1 c1 l1 h1 m1 g1 a2 u2))
#print axioms proved
end Go.Proofs.Ytkacndinjomifaa.Matches
