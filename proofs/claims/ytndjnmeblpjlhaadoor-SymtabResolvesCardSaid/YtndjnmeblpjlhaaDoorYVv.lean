/-
  symtab's laws: awake.
-/
import Derived.Test.YtndjnmeblpjlhaaDoorYVt
namespace Go.Proofs.YtndjnmeblpjlhaaDoor.Tab
open Go.RowKit Go.Proofs Go.Proofs.YtndjnmeblpjlhaaDoor.Byt
open Go.Proofs.YtndjnmeblpjlhaaDoor.Obj (Sy RdS SCells)
open Go.Proofs.YtndjnmeblpjlhaaDoor.Bnd

theorem one_small : (1 : Nat) ≤ maxLen := by unfold maxLen; omega
theorem small_exO : ∀ x ∈ exO, x.name.size ≤ maxLen := fun x hx => by
  rcases List.mem_cons.1 hx with rfl | hx
  · exact one_small
  · rw [List.mem_singleton] at hx
    subst hx
    exact one_small
theorem small_exP : ∀ x ∈ exP, x.name.size ≤ maxLen := fun x hx => by
  rw [show exP = [_] from rfl, List.mem_singleton] at hx
  subst hx
  exact one_small
theorem own_lit (l : List ByteArray) (w : World) (K : Nat) (hK : K ≤ w.heap.size) (hl : l.length ≤ 1000) : Sls.Own (w.alloc (.cells (Sls.enc l).toArray 9)) K (.slice (some ⟨w.heap.size, 0, none⟩) l.length l.length) l.length l :=
  ⟨rfl, .inr ⟨w.heap.size, l.length, _, (0, 0), rfl, hK, heap_alloc_new w _, Nat.le_refl _, by unfold maxLen; omega, by simp [Sls.enc_length], by rw [← Sls.enc_length l]; simp, fun j _ hj => by simp at hj⟩⟩
theorem qtexts {w : World} {A B : Option Addr} {n c m d : Nat} {l : List ByteArray} (h : Sls.Rd w w.heap.size A n l) (h' : Sls.Rd w w.heap.size B m l) (hn : n ≤ 100000) :
    Calls Tryd.prog 16 #[.slice A n c, .slice B m d] w fun e w' => e = .returned (.bool true) ∧ Below w.heap.size w w' := by
  refine (Lnm.texts_any w.heap.size w.heap.size A B n c m d l l w h h' (by omega)).mono ?_
  rintro e w' ⟨rfl, k, rfl⟩
  exact ⟨by rw [Lnm.eqs_iff.2 rfl], bdr (Below.refl _ _) k⟩
theorem nowned {l : List ByteArray} {w : World} {K : Nat} {A : Option Addr} {n c : Nat} (h : Sls.Own w K (.slice A n c) n l) : Sls.Rd w w.heap.size A n l := by
  obtain ⟨A', c', e, hr, _, _⟩ := h.reads
  injection e with e1 _ e3
  subst e1 e3
  exact hr
theorem rowned {l : List Us} {w : World} {K : Nat} {A : Option Addr} {n c : Nat} (h : Cel.Own 54 5 w K (.slice A n c) n (ucells l)) : RdU w w.heap.size A n l := by
  obtain ⟨A', c', e, hr, _, _⟩ := h.reads
  injection e with e1 _ e3
  subst e1 e3
  exact rdu_of hr
theorem res_lit (l : List Us) (w : World) (K : Nat) (hK : K ≤ w.heap.size) (hl : l.length ≤ 1000) : Cel.Own 54 5 (w.alloc (.cells (ucells l).toArray 54)) K (.slice (some ⟨w.heap.size, 0, none⟩) l.length l.length) l.length (ucells l) :=
  ⟨ucells_length l, .inr ⟨w.heap.size, l.length, _, (0, 0), rfl, hK, heap_alloc_new w _, Nat.le_refl _, by unfold maxLen; omega, by simp [ucells_length], by rw [← ucells_length l]; simp, fun j _ hj => by simp at hj⟩⟩
theorem field3 (a b c z : Int) (d e f : Bool) (v : Value) (V : World) : (Instr.field 41 (.agg #[.int .i64 a, .int .i64 b, .int .i64 c, .int .i64 z, .bool d, .bool e, .bool f, v]) 3).run Tryd.prog V = .ok (.int .i64 z) V := by kernel_rfl
set_option linter.unusedSimpArgs false in
set_option maxRecDepth 100000 in
set_option maxHeartbeats 16000000 in
theorem awake_any (w : World) (hP : Prec w) :
    Calls Tryd.prog 8 #[] w fun e w' => e = .returned (.bool true) ∧ Below w.heap.size w w' := by
  have hg := Prec.pos hP
  have hb1 := (Below.refl w.heap.size w).alloc (Nat.le_refl _) (.cells #[.int .i64 0, .map none] 29)
  have hn1 := heap_alloc_new w (.cells #[.int .i64 0, .map none] 29)
  have hz1 := World.size_alloc w (.cells #[.int .i64 0, .map none] 29)
  go_enter Tryd.func8, Tryd.ntmps8
  go_upto_region 3 with fail
  generalize w.alloc (.cells #[.int .i64 0, .map none] 29) = W1 at *
  obtain ⟨T, hT⟩ : ∃ T, w.heap.size = T := ⟨_, rfl⟩
  rw [hT] at hn1 hz1 hg hb1
  rw [hT]
  have hTb1 : Tb W1 T T none [] := Tb.new hn1 (Nat.le_refl _)
  have hb2 := (Below.refl W1.heap.size W1).alloc (Nat.le_refl _) (.cells #[.string nF, .int .i64 4, .int .i64 0, .int .i64 0, .string nA, .int .i64 5, .int .i64 0, .int .i64 0] 56)
  have hn2 := heap_alloc_new W1 (.cells #[.string nF, .int .i64 4, .int .i64 0, .int .i64 0, .string nA, .int .i64 5, .int .i64 0, .int .i64 0] 56)
  have hTb2 := hTb1.below hb2
  have hB2 := hb1.trans (hb2.mono (by omega))
  rw [hz1] at hn2
  have hld := fun (W2 : World) (h2 : W2.heap[T + 1]? = _) (hT2 : Tb W2 T T none []) (hB2 : Below T w W2) => tload_any T T none [] (some ⟨T + 1, 0, none⟩) none 2 2 0 0 exO W2 (Prec.low hP hB2 hg) hg hT2 (fun V _ hS => syms_read (xs := exO) (syms_stay h2 hT2 hS) rfl small_exO) (by simp [exO]) (by simp [exO]) ok0
  obtain ⟨W2, hW2⟩ : ∃ W2, W1.alloc (.cells #[.string nF, .int .i64 4, .int .i64 0, .int .i64 0, .string nA, .int .i64 5, .int .i64 0, .int .i64 0] 56) = W2 := ⟨_, rfl⟩
  rw [hW2] at hn2 hTb2 hB2
  have hW2' : W1.alloc (.cells #[.string ⟨#[102]⟩, .int .i64 4, .int .i64 0, .int .i64 0, .string ⟨#[97]⟩, .int .i64 5, .int .i64 0, .int .i64 0] 56) = W2 := hW2
  have HL := hid ((hld _ hn2 hTb2 hB2).mono fun e w' h => (⟨h.1, h.2⟩ : e = .returned (.int .i64 0) ∧ _))
  have HZ := hid hz1
  have HT := hid hT
  have hTb2' := hTb2
  have hB2' := hB2
  clear hld hb2 hn2 hTb1 hb1 hn1 hT hW2
  go_wp2_with fail
  clear hz1
  refine HL.out.mono ?_
  rintro e W3 ⟨rfl, M, hTb3, _, hB3, hS3⟩
  have hTb3 : Tb W3 T T (some M) [exO] := hTb3
  have B3 := hB2.trans hB3
  have HW := hid (twanted_any hTb3 ok1)
  rw [wnt1] at HW
  clear HL hB3 hS3 hTb2 hB2
  go_wp2_with fail
  refine HW.out.mono ?_
  rintro e W4 ⟨A4, c4, rfl, o4, hb4⟩
  clear HW
  have hTb4 := hTb3.below hb4
  have hT3 := hTb3.lt
  have B4 := B3.trans (hb4.mono (Nat.le_of_lt hT3))
  have hb5 := (Below.refl W4.heap.size W4).alloc (Nat.le_refl _) (.cells #[.string nF, .int .i64 1, .int .i64 3, .int .i64 0] 56)
  have hn5 := heap_alloc_new W4 (.cells #[.string nF, .int .i64 1, .int .i64 3, .int .i64 0] 56)
  have hTb5 := hTb4.below hb5
  have hT4 := hTb4.lt
  have B5 := B4.trans (hb5.mono (Nat.le_of_lt hT4))
  have o5 := o4.below hb5
  have HL := hid (tload_any T T (some M) [exO] (some ⟨W4.heap.size, 0, none⟩) none 1 1 0 0 exP _ (Prec.low hP B5 hg) hg hTb5 (fun V _ hS => syms_read (xs := exP) (syms_stay hn5 hTb5 hS) rfl small_exP) (by simp [exP]) (by simp [exP]) ok1)
  obtain ⟨W5, hW5⟩ : ∃ W5, W4.alloc (.cells #[.string nF, .int .i64 1, .int .i64 3, .int .i64 0] 56) = W5 := ⟨_, rfl⟩
  have hTb5' := hTb5
  rw [hW5] at hTb5' o5 HL B5
  have HL := hid (HL.out.mono fun e w' h => (⟨h.1, h.2⟩ : e = .returned (.int .i64 1) ∧ _))
  have hW5' : W4.alloc (.cells #[.string ⟨#[102]⟩, .int .i64 1, .int .i64 3, .int .i64 0] 56) = W5 := hW5
  clear hb5 hn5 hTb5 hTb4 hTb3 B4 B3 o4 hb4 hT3 hT4 hW5
  go_wp2_with fail
  refine HL.out.mono ?_
  rintro e W6 ⟨rfl, M', hTb6, _, hB6, hS6⟩
  have hTb6 : Tb W6 T T (some M') [exO, exP] := hTb6
  have o6 := sown_stay o5 hTb5' hS6 rfl
  have B6 := B5.trans hB6
  have HTb := hid fun (V : World) (h : Below W6.heap.size W6 V) => hTb6.below h
  have HR := hid fun (V : World) (h : Below W6.heap.size W6 V) => ((nowned o6).below h).more h.size
  have HB6 := hid B6
  have HTl := hid hTb6.lt
  have b : Below W6.heap.size W6 W6 := Below.refl _ _
  clear HL hB6 hS6 o6 o5 hTb5' B5 B6 hTb6 hW5'
  go_wp2_with fail
  refine ((tunits_any (HTb.out _ b)).mono fun e w' h => (⟨h.1, h.2⟩ : e = .returned (.int .i64 2) ∧ _)).mono ?_
  rintro e y0 ⟨rfl, rfl⟩
  have bA := b.alloc b.size (.cells (Sls.enc [nF]).toArray 9)
  have oA : Sls.Own _ 0 (.slice (some ⟨y0.heap.size, 0, none⟩) 1 1) 1 [nF] := own_lit [nF] y0 0 (Nat.zero_le _) (by decide)
  obtain ⟨y1, hV⟩ : ∃ V, y0.alloc (.cells (Sls.enc [nF]).toArray 9) = V := ⟨_, rfl⟩
  rw [hV] at bA oA
  have hV' : y0.alloc (.cells #[.string ⟨#[102]⟩] 9) = y1 := hV
  clear hV b
  go_wp2_with fail
  refine (qtexts (HR.out _ bA) (nowned oA) (by decide)).mono ?_
  rintro e y2 ⟨rfl, q⟩
  have b := bA.trans (q.mono bA.size)
  clear q bA oA hV'
  have HW := hid (twanted_any (HTb.out _ b) ok2)
  rw [wnt2] at HW
  have HW := hid (HW.out.mono fun e w' h => (h : ∃ A c, e = .returned (.slice A 0 c) ∧ Sls.Own w' y2.heap.size (.slice A 0 c) 0 [] ∧ Below y2.heap.size y2 w'))
  go_wp2_with fail
  refine HW.out.mono ?_
  rintro e y3 ⟨A3, c3, rfl, _, q⟩
  have b := b.trans (q.mono b.size)
  clear q HW
  have HW := hid (tnames_any (HTb.out _ b) ok2)
  rw [nms2] at HW
  have HW := hid (HW.out.mono fun e w' h => (h : ∃ A c, e = .returned (.slice A 2 c) ∧ Sls.Own w' y3.heap.size (.slice A 2 c) 2 [nA, nF] ∧ Below y3.heap.size y3 w'))
  go_wp2_with fail
  refine HW.out.mono ?_
  rintro e y4 ⟨A5, c5, rfl, o4, q⟩
  have b := b.trans (q.mono b.size)
  clear q HW
  have bA := b.alloc b.size (.cells (Sls.enc [nA, nF]).toArray 9)
  have oA : Sls.Own _ 0 (.slice (some ⟨y4.heap.size, 0, none⟩) 2 2) 2 [nA, nF] := own_lit [nA, nF] y4 0 (Nat.zero_le _) (by decide)
  obtain ⟨y5, hV⟩ : ∃ V, y4.alloc (.cells (Sls.enc [nA, nF]).toArray 9) = V := ⟨_, rfl⟩
  rw [hV] at bA oA
  have hV' : y4.alloc (.cells #[.string ⟨#[97]⟩, .string ⟨#[102]⟩] 9) = y5 := hV
  have rA := ((nowned o4).below ((Below.refl _ _).alloc (Nat.le_refl _) (.cells (Sls.enc [nA, nF]).toArray 9))).more (K' := (y4.alloc (.cells (Sls.enc [nA, nF]).toArray 9)).heap.size) (by simp)
  rw [hV] at rA
  clear hV b o4
  go_wp2_with fail
  refine (qtexts rA (nowned oA) (by decide)).mono ?_
  rintro e y6 ⟨rfl, q⟩
  have b := bA.trans (q.mono bA.size)
  clear q bA oA hV' rA
  have HW := hid (tresolved_any (HTb.out _ b) ok2)
  rw [res2] at HW
  have HW := hid (HW.out.mono fun e w' h => (h : ∃ A c, e = .returned (.slice A 2 c) ∧ Cel.Own 54 5 w' y6.heap.size (.slice A 2 c) 2 (ucells [⟨⟨nA, 5, 0, 0⟩, -1⟩, ⟨⟨nF, 1, 3, 0⟩, 1⟩]) ∧ Below y6.heap.size y6 w'))
  go_wp2_with fail
  refine HW.out.mono ?_
  rintro e y7 ⟨A7, c7, rfl, o7, q⟩
  have b := b.trans (q.mono b.size)
  clear q HW
  have bl := (Below.refl y7.heap.size y7).alloc (Nat.le_refl _) (.cells (ucells [⟨⟨nA, 5, 0, 0⟩, -1⟩, ⟨⟨nF, 1, 3, 0⟩, 1⟩]).toArray 54)
  have oA : Cel.Own 54 5 _ 0 (.slice (some ⟨y7.heap.size, 0, none⟩) 2 2) 2 (ucells [⟨⟨nA, 5, 0, 0⟩, -1⟩, ⟨⟨nF, 1, 3, 0⟩, 1⟩]) := res_lit [⟨⟨nA, 5, 0, 0⟩, -1⟩, ⟨⟨nF, 1, 3, 0⟩, 1⟩] y7 0 (Nat.zero_le _) (by decide)
  obtain ⟨y8, hV⟩ : ∃ V, y7.alloc (.cells (ucells [⟨⟨nA, 5, 0, 0⟩, -1⟩, ⟨⟨nF, 1, 3, 0⟩, 1⟩]).toArray 54) = V := ⟨_, rfl⟩
  rw [hV] at bl oA
  have hV' : y7.alloc (.cells #[.string ⟨#[97]⟩, .int .i64 5, .int .i64 0, .int .i64 0, .int .i64 (-1), .string ⟨#[102]⟩, .int .i64 1, .int .i64 3, .int .i64 0, .int .i64 1] 54) = y8 := hV
  have rA := ((rowned o7).below bl).more bl.size
  have bA := b.trans (bl.mono b.size)
  clear hV b o7 bl
  go_wp2_with fail
  refine (rsamer_any y8.heap.size A7 (some ⟨y7.heap.size, 0, none⟩) 2 c7 2 _ y8 rA (rowned oA) (Nat.le_refl _) (by decide)).mono ?_
  rintro e y9 ⟨rfl, q⟩
  have b := bA.trans (q.mono bA.size)
  clear q bA oA hV' rA
  go_wp2_with fail
  refine (load_nil _ _ _).mono ?_
  rintro e y10 ⟨rfl, q⟩
  have b := b.trans (q.mono b.size)
  clear q
  go_wp2_with fail
  refine (units_nil _).mono ?_
  rintro e y11 ⟨rfl, rfl⟩
  have HW := hid (state_any 0 none none (fun _ => []) ⟨#[120]⟩ y11 (.inl ⟨rfl, rfl⟩) (.inl ⟨rfl, fun _ => rfl⟩) (by decide))
  have HW := hid (HW.out.mono fun e w' h => (by obtain ⟨v, a, o, c⟩ := h; obtain ⟨A, n, k, rfl, _⟩ := o.pl; exact ⟨A, n, k, a, c⟩ : ∃ A n k, e = .returned (.agg #[.int .i64 0, .int .i64 0, .int .i64 0, .int .i64 (-1), .bool false, .bool false, .bool false, .slice A n k]) ∧ Below y11.heap.size y11 w'))
  go_wp2_with fail
  refine HW.out.mono ?_
  rintro e y12 ⟨A12, n12, k12, rfl, q⟩
  have b := b.trans (q.mono b.size)
  clear q HW
  have HW := hid (pnames_any 0 none none (fun _ => []) y12 (.inl ⟨rfl, rfl⟩) (.inl ⟨rfl, fun _ => rfl⟩) [] List.Pairwise.nil (by simp) (by decide))
  have HW := hid (HW.out.mono fun e w' h => (h : ∃ A c, e = .returned (.slice A 0 c) ∧ Sls.Own w' y12.heap.size (.slice A 0 c) 0 [] ∧ Below y12.heap.size y12 w'))
  have hf := field3
  go_wp2_with fail
  refine HW.out.mono ?_
  rintro e y13 ⟨A13, c13, rfl, _, q⟩
  have b := b.trans (q.mono b.size)
  clear q HW
  go_wp2_with fail
  go_ret
  exact ⟨rfl, (HB6.out.trans (b.mono (Nat.le_of_lt HTl.out))).mono (Nat.le_of_eq HT.out)⟩
end Go.Proofs.YtndjnmeblpjlhaaDoor.Tab
