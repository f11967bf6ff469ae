/-
  objsym: Encode and Find.
-/
import Derived.Test.YtkacndinjomifaaOd
namespace Go.Proofs.Ytkacndinjomifaa.Obj
open Go.RowKit Go.Proofs Go.Proofs.Ytkacndinjomifaa.Byt
open Go.Proofs.Ytkacndinjomifaa.Sls (Oth)

/-- A literal's bytes are the call's own. -/
theorem Own.const (w : World) (K n : Nat) (l : List UInt8) (cs : Array Value) (h : cs = (enc l).toArray) (hl : l.length = n) (hK : K ≤ w.heap.size) (hn : n ≤ 1000000) :
    Byt.Own (w.alloc (.cells cs 5 (n, n + 1))) K (.slice (some ⟨w.heap.size, 0, none⟩) n n) n l := by
  subst h
  refine ⟨hl, .inr ⟨w.heap.size, n, _, (n, n + 1), rfl, hK, heap_alloc_new w _, Nat.le_refl _, by unfold maxLen; omega, by simp [enc_length, hl], ?_, fun j hj => by simp only; omega⟩⟩
  rw [List.take_of_length_le (by simp [enc_length, hl])]

theorem encL_append (a b : List Sy) : encL (a ++ b) = encL a ++ encL b := by simp [encL]
theorem encL_one (x : Sy) : encL [x] = encS x := by simp [encL]
theorem encL_len : ∀ xs : List Sy, (∀ x ∈ xs, symOk x = true) → (encL xs).length ≤ 265 * xs.length
  | [], _ => by simp [encL]
  | x :: r, h => by
    have h1 := encL_len r fun y hy => h y (by simp [hy])
    have h2 := nameOk_range (by have := h x (by simp); unfold symOk at this; rw [Bool.and_eq_true] at this; exact this.1)
    have e : encL (x :: r) = encS x ++ encL r := by simp [encL]
    rw [e, List.length_append, encS_length, List.length_cons]
    omega
theorem goodL_all : ∀ {xs seen : List Sy}, goodL seen xs = true → ∀ x ∈ xs, symOk x = true
  | [], _, _, x, hx => by simp at hx
  | y :: r, seen, h, x, hx => by
    unfold goodL at h
    rw [Bool.and_eq_true, Bool.and_eq_true] at h
    rcases List.mem_cons.1 hx with rfl | hx
    · exact h.1.2
    · exact goodL_all h.2 x hx

/-- What Encode gives. -/
def Encodes (xs : List Sy) (body : List UInt8) (w : World) (e : Ending) (w' : World) : Prop :=
  Below w.heap.size w w' ∧ ((validO xs = true ∧ ∃ v n, e = .returned (.tuple #[v, .int .i64 0]) ∧ Byt.Own w' w.heap.size v n (encO xs body)) ∨ (validO xs = false ∧ e = .returned (.tuple #[.slice none 0 0, .int .i64 12])))

set_option maxRecDepth 100000 in
set_option maxHeartbeats 2000000 in
theorem encode_any (K : Nat) (A B : Option Addr) (n c m d : Nat) (xs : List Sy) (body : List UInt8) (w : World) (h : RdS w K A n xs) (hB : Byt.Rd w K B m body) (hK : K ≤ w.heap.size) (hm : m ≤ 100000000) :
    Calls Try.prog 10 #[.agg #[.slice A n c, .slice B m d]] w (Encodes xs body w) := by
  have Hl := hid h.1
  have hb0 := (Below.refl w.heap.size w).alloc (Nat.le_refl _) (.cells #[.slice A n c, .slice B m d] 25)
  have hrow0 := heap_alloc_new w (.cells #[.slice A n c, .slice B m d] 25)
  have hsz0 : (w.alloc (.cells #[.slice A n c, .slice B m d] 25)).heap.size = w.heap.size + 1 := World.size_alloc _ _
  have Hv := hid (valid_any K A B n c m d xs (w.alloc (.cells #[.slice A n c, .slice B m d] 25)) (h.below (hb0.mono hK)) (by omega))
  have h0 := h.below (hb0.mono hK)
  have hB0 := hB.below (hb0.mono hK)
  have c0 := cell_of_row _ w.heap.size 0 _ _ _ hrow0
  have c1 := cell_of_row _ w.heap.size 1 _ _ _ hrow0
  have kc := fun (w : World) (C : Array Value) (n c : Nat) => Lib.run_convert_bytes_const (P := Try.prog) w 23 5 C n c Try.underlying23 Try.underlying5
  go_enter Try.func10, Try.ntmps10
  go_wp2_with fail
  refine Hv.out.mono ?_
  rintro e w1 ⟨rfl, hb1⟩
  generalize w.alloc (.cells #[.slice A n c, .slice B m d] 25) = w0 at *
  have hrow1 := (hb1.block w.heap.size (by omega)).trans hrow0
  have d0 := cell_of_row _ w.heap.size 0 _ _ _ hrow1
  have d1 := cell_of_row _ w.heap.size 1 _ _ _ hrow1
  have hsz1 := hb1.size
  rw [hsz0] at hb1 hsz1
  have h1 := h0.below (hb1.mono (by omega))
  have hB1 := hB0.below (hb1.mono (by omega))
  clear c0 c1 Hv h h0 hB hB0 hrow0
  cases hv : validO xs
  · have Hv := hid hv
    go_wp2_with fail
    exact bodyPost_ret (v := .tuple #[.slice none 0 0, .int .i64 12]) (by simp [results, Try.results10, go_sem]) rfl ⟨hb0.trans (hb1.mono (by omega)), .inr ⟨Hv.out, rfl⟩⟩
  · have Hv := hid hv
    have hg : goodL [] xs = true ∧ xs.length ≤ 65536 := by unfold validO at hv; rw [Bool.and_eq_true, decide_eq_true_eq] at hv; exact ⟨hv.2, hv.1⟩
    have Hg := hid (goodL_all hg.1)
    have hn : n ≤ 65536 := by have := Hl.out; have := hg.2; omega
    clear hv hg
    have d0' : w1.cell? ⟨w.heap.size, 0, none⟩ = some (.slice A n c) := d0
    have q0 := Lib.cell?_alloc_some (.cells #[.int .u8 79, .int .u8 66, .int .u8 74, .int .u8 49] 5 (4, 5)) d0'
    have hb2 := (Below.refl (w.heap.size + 1) w1).alloc hsz1 (.cells #[.int .u8 79, .int .u8 66, .int .u8 74, .int .u8 49] 5 (4, 5))
    have ho := Own.const w1 (w.heap.size + 1) 4 magic #[.int .u8 79, .int .u8 66, .int .u8 74, .int .u8 49] rfl rfl hsz1 (by omega)
    clear d0'
    go_wp2_with fail
    refine (appendNumber_any _ (w.heap.size + 1) _ 4 4 magic ho (by simp; omega) n (by omega)).mono ?_
    rintro e w2 ⟨v2, rfl, ho2, hb3, _⟩
    obtain ⟨A2, c2, rfl, _⟩ := ho2.reads
    have hb12 := hb2.trans hb3
    have hrow2 := (hb12.block w.heap.size (by omega)).trans hrow1
    have e0 := cell_of_row _ w.heap.size 0 _ _ _ hrow2
    have h2 := h1.below (hb12.mono (by omega))
    have hB2 := hB1.below (hb12.mono (by omega))
    have hb02 := hb1.trans hb12
    clear q0 d0 d1 hb2 hb3 ho hrow1 h1 hB1 hb1 hb12
    go_wp2_with fail
    go_loopw [4, 19] (fun v i W => ∃ (k : Nat) (A' : Option Addr) (c' : Nat), i = .int .i64 (k : Int) ∧ v = .slice A' (8 + (encL (xs.take k)).length) c' ∧ k ≤ n ∧ Byt.Own W (w.heap.size + 1) (.slice A' (8 + (encL (xs.take k)).length) c') (8 + (encL (xs.take k)).length) (magic ++ w4 n ++ encL (xs.take k)) ∧ Below (w.heap.size + 1) w2 W) (fun _ i _ => n - (intOf i).toNat)
    case atStart => exact ⟨0, A2, c2, rfl, rfl, by omega, by simpa [encL] using ho2, Below.refl _ _⟩
    case round =>
      obtain ⟨k, A', c', rfl, rfl, hk, hO, hb⟩ := hrel
      by_cases hlt : k < n
      · have hkl : k < xs.length := by have := Hl.out; omega
        obtain ⟨⟨b, o, rfl, hbK, hcell⟩, hsz⟩ := h2.2 k hkl
        have hcl := hcell.below hb (by omega)
        have Htake : Hid (encL (xs.take (k + 1)) = encL (xs.take k) ++ encS xs[k]) := hid (by rw [List.take_add_one, List.getElem?_eq_getElem hkl, encL_append]; simp [encL])
        have hok := hid (Hg.out _ (List.getElem_mem hkl))
        have Hlen : Hid ((encL (xs.take k)).length ≤ 265 * k) := hid (Nat.le_trans (encL_len _ fun y hy => Hg.out y (List.mem_of_mem_take hy)) (by rw [List.length_take]; exact Nat.mul_le_mul_left _ (by omega)))
        have hb1 : b < wr.heap.size := by have := hb.size; have := hb02.size; omega
        clear hcell e0
        generalize xs[k] = x at *
        obtain ⟨x0, x1, x2, x3⟩ := x
        obtain ⟨p0, p1, p2, p3⟩ := hcl
        have HO := hid hO
        have HB := hid hb
        have hwr : w.heap.size + 1 ≤ wr.heap.size := by have := hb.size; have := hb02.size; omega
        clear hO hb
        go_wp2_with fail
        refine (appendSym_any _ (w.heap.size + 1) A' _ c' _ (HO.out.alloc _) (by simp; omega) ⟨x0, x1, x2, x3⟩ hok.out (by have := Hlen.out; omega)).mono ?_
        rintro e w3 ⟨v3, rfl, ho3, hb3⟩
        obtain ⟨A3, c3, rfl, _⟩ := ho3.reads
        have e3 : 8 + (encL (xs.take k)).length + (10 + x0.size) = 8 + (encL (xs.take (k + 1))).length := by rw [Htake.out, List.length_append, encS_length]; simp only; omega
        have e4 : magic ++ w4 n ++ encL (xs.take k) ++ encS ⟨x0, x1, x2, x3⟩ = magic ++ w4 n ++ encL (xs.take (k + 1)) := by rw [Htake.out]; simp
        simp only at ho3
        rw [e3, e4] at ho3
        have hbw := (HB.out.alloc (Nat.le_trans (by omega) hwr) (.cells #[.string x0, .int .i64 x1, .int .i64 x2, .int .i64 x3] 38)).trans hb3
        have E3 := hid e3
        clear e3 e4 hb3
        simp only [E3.out]
        go_wp2_with fail
        go_roundw
        all_goals first
          | exact ⟨k + 1, A3, c3, by go_num, rfl, by omega, ho3, hbw⟩
          | (simp [intOf]; omega)
      · obtain rfl : k = n := by omega
        have hall : xs.take k = xs := List.take_of_length_le (by have := Hl.out; omega)
        rw [hall] at hO ⊢
        have hrow3 := (hb.block w.heap.size (by have := hb02.size; omega)).trans hrow2
        have f1 := cell_of_row _ w.heap.size 1 _ _ _ hrow3
        have hB3 := hB2.below (hb.mono (by omega))
        have hlen : (encL xs).length ≤ 265 * k := by have := encL_len xs Hg.out; have := Hl.out; omega
        have hwr : w.heap.size + 1 ≤ wr.heap.size := by have := hb.size; have := hb02.size; omega
        have HL := hid hall
        clear e0 hrow3 hall
        go_wp2_with (at_builtin; refine wpList_app2 wr (w.heap.size + 1) _ _ _ hO hwr B m d K body hB3 (by omega) rfl (.tmp 27) (.tmp 29) rfl rfl rfl ?_; intro v4 w4' h4 b4 o4)
        refine bodyPost_ret (v := .tuple #[v4, .int .i64 0]) (by simp [results, Try.results10, go_sem]) rfl ?_
        refine ⟨((hb0.trans (hb02.mono (by omega))).trans (hb.mono (by omega))).trans (b4.mono (by omega)), .inl ⟨Hv.out, v4, 8 + (encL xs).length + m, rfl, ?_⟩⟩
        have e5 : encO xs body = magic ++ w4 k ++ encL xs ++ body := by unfold encO; rw [Hl.out]; simp
        rw [e5]
        exact h4.more (by omega)

/-! ### Find -/
def findS : List Sy → ByteArray → Sy
  | [], _ => ⟨⟨#[]⟩, 0, 0, 0⟩
  | x :: r, s => if x.name = s then x else findS r s
theorem str_eq {u v : ByteArray} : (u.toList = v.toList) ↔ u = v := by
  constructor
  · intro h
    rw [Lib.toList_data, Lib.toList_data] at h
    rw [← str_of u, ← str_of v, h]
  · exact fun h => by rw [h]
theorem find_step {xs : List Sy} {k : Nat} (hk : k < xs.length) (s : ByteArray) :
    (xs[k].name = s → has (xs.drop k) s = true ∧ findS (xs.drop k) s = xs[k]) ∧ (xs[k].name ≠ s → has (xs.drop k) s = has (xs.drop (k + 1)) s ∧ findS (xs.drop k) s = findS (xs.drop (k + 1)) s) := by
  rw [List.drop_eq_getElem_cons hk]
  generalize xs.drop (k + 1) = r
  generalize xs[k] = x
  refine ⟨fun h => ⟨by simp [has, h], by simp [findS, h]⟩, fun h => ⟨by simp [has, h], by simp [findS, h]⟩⟩

/-- A variable of four cells, set. -/
def put4 (W : World) (B : Nat) (v0 v1 v2 v3 : Value) : World := (((W.setCell ⟨B, 0, none⟩ v0).setCell ⟨B, 1, none⟩ v1).setCell ⟨B, 2, none⟩ v2).setCell ⟨B, 3, none⟩ v3
theorem put4_row {W : World} {B : Nat} {a b c d : Value} {t : TypeId} (h : W.heap[B]? = some (.cells #[a, b, c, d] t (0, 0))) (v0 v1 v2 v3 : Value) : (put4 W B v0 v1 v2 v3).heap[B]? = some (.cells #[v0, v1, v2, v3] t (0, 0)) :=
  heap_setCell_same _ B 3 _ _ v3 (heap_setCell_same _ B 2 _ _ v2 (heap_setCell_same _ B 1 _ _ v1 (heap_setCell_same W B 0 _ _ v0 h)))
theorem put4_below {w W : World} {K B : Nat} (h : Below K w W) (hB : K ≤ B) (v0 v1 v2 v3 : Value) : Below K w (put4 W B v0 v1 v2 v3) :=
  (((h.setCell (p := ⟨B, 0, none⟩) hB v0).setCell (p := ⟨B, 1, none⟩) hB v1).setCell (p := ⟨B, 2, none⟩) hB v2).setCell (p := ⟨B, 3, none⟩) hB v3
theorem load4 (w : World) (B : Nat) (cs : Array Value) (h : w.heap[B]? = some (.cells cs 38 (0, 0))) (hs : cs.size = 4) :
    (loadVar 38 ⟨B, 0, none⟩).run Try.prog w = .ok (.agg cs) w :=
  run_loadVar_row w B 38 38 cs (0, 0) _ h Try.underlying38 rfl (by rw [hs]; kernel_rfl)

set_option maxRecDepth 100000 in
set_option maxHeartbeats 2000000 in
theorem find_any (K : Nat) (A B : Option Addr) (n c m d : Nat) (xs : List Sy) (s : ByteArray) (w : World) (h : RdS w K A n xs) (hK : K ≤ w.heap.size) (hn : n ≤ 140737488355328) :
    Calls Try.prog 14 #[.agg #[.slice A n c, .slice B m d], .string s] w fun e w' => e = .returned (.tuple #[(findS xs s).val, .bool (has xs s)]) ∧ Below w.heap.size w w' := by
  have Hl := hid h.1
  have hb0 := ((Below.refl w.heap.size w).alloc (Nat.le_refl _) (.cells #[.slice A n c, .slice B m d] 25)).alloc (by simp) (.cells #[.string ⟨#[]⟩, .int .i64 0, .int .i64 0, .int .i64 0] 38)
  have hrow0 := heap_alloc_new (w.alloc (.cells #[.slice A n c, .slice B m d] 25)) (.cells #[.string ⟨#[]⟩, .int .i64 0, .int .i64 0, .int .i64 0] 38)
  rw [World.size_alloc] at hrow0
  have hsz0 : ((w.alloc (.cells #[.slice A n c, .slice B m d] 25)).alloc (.cells #[.string ⟨#[]⟩, .int .i64 0, .int .i64 0, .int .i64 0] 38)).heap.size = w.heap.size + 2 := by simp
  go_enter Try.func14, Try.ntmps14
  go_wp2_with fail
  generalize (w.alloc (.cells #[.slice A n c, .slice B m d] 25)).alloc (.cells #[.string ⟨#[]⟩, .int .i64 0, .int .i64 0, .int .i64 0] 38) = w0 at *
  go_loopw [11] (fun i W => ∃ k : Nat, i = .int .i64 (k : Int) ∧ k ≤ n ∧ Hid (has xs s = has (xs.drop k) s ∧ findS xs s = findS (xs.drop k) s) ∧ Below (w.heap.size + 2) w0 W) (fun i _ => n - (intOf i).toNat)
  case atStart => exact ⟨0, rfl, by omega, hid ⟨rfl, rfl⟩, Below.refl _ _⟩
  case round =>
    obtain ⟨k, rfl, hk, hG, hb⟩ := hrel
    have hrow := (hb.block (w.heap.size + 1) (by omega)).trans hrow0
    have e0 := cell_of_row _ (w.heap.size + 1) 0 _ _ _ hrow
    have e1 := cell_of_row _ (w.heap.size + 1) 1 _ _ _ hrow
    have e2 := cell_of_row _ (w.heap.size + 1) 2 _ _ _ hrow
    have e3 := cell_of_row _ (w.heap.size + 1) 3 _ _ _ hrow
    have ef := fun o => frozen_of_row wr (w.heap.size + 1) o _ _ hrow
    have hwr : w.heap.size + 2 ≤ wr.heap.size := by have := hb.size; omega
    by_cases hlt : k < n
    · have hkl : k < xs.length := by have := Hl.out; omega
      obtain ⟨⟨b, o, rfl, hbK, hcell⟩, hsz⟩ := h.2 k hkl
      have hcl := (hcell.below (hb0.mono hK) hbK).below hb (by omega)
      have Hstep := hid (find_step hkl s)
      have hb1 : b < wr.heap.size := by omega
      clear hcell
      generalize xs[k] = x at *
      obtain ⟨x0, x1, x2, x3⟩ := x
      obtain ⟨p0, p1, p2, p3⟩ := hcl
      have HB := hid hb
      clear hb
      by_cases hq : x0 = s
      · obtain ⟨r1, r2⟩ := Hstep.out.1 hq
        have hqb : (x0.toList == s.toList) = true := by rw [beq_iff_eq, str_eq]; exact hq
        have HR : Hid (has xs s = true ∧ findS xs s = ⟨x0, x1, x2, x3⟩) := hid ⟨hG.out.1.trans r1, hG.out.2.trans r2⟩
        have hrow2 := (Below.heap_alloc wr (.cells #[.string x0, .int .i64 x1, .int .i64 x2, .int .i64 x3] 38) (w.heap.size + 1) (by omega)).trans hrow
        have g0 := cell_of_row _ (w.heap.size + 1) 0 _ _ _ hrow2
        have g1 := cell_of_row _ (w.heap.size + 1) 1 _ _ _ hrow2
        have g2 := cell_of_row _ (w.heap.size + 1) 2 _ _ _ hrow2
        have g3 := cell_of_row _ (w.heap.size + 1) 3 _ _ _ hrow2
        have gf := fun o => frozen_of_row _ (w.heap.size + 1) o _ _ hrow2
        have hl := load4 _ _ _ (put4_row hrow2 (.string x0) (.int .i64 x1) (.int .i64 x2) (.int .i64 x3)) rfl
        have hbb := (hb0.trans (HB.out.mono (by omega))).alloc (by omega) (.cells #[.string x0, .int .i64 x1, .int .i64 x2, .int .i64 x3] 38)
        have hbb2 := put4_below hbb (show w.heap.size ≤ w.heap.size + 1 by omega) (.string x0) (.int .i64 x1) (.int .i64 x2) (.int .i64 x3)
        unfold put4 at hl hbb2
        clear hq r1 r2 e0 e1 e2 e3 ef hbb hrow hrow2
        go_wp2_with fail
        exact bodyPost_ret (v := .tuple #[.agg #[.string x0, .int .i64 x1, .int .i64 x2, .int .i64 x3], .bool true]) (by simp [results, Try.results14, asAddr, hl]) rfl ⟨by rw [HR.out.1, HR.out.2]; rfl, hbb2⟩
      · obtain ⟨r1, r2⟩ := Hstep.out.2 hq
        have hqb : (x0.toList == s.toList) = false := by rw [beq_eq_false_iff_ne, ne_eq, str_eq]; exact hq
        have HR : Hid (has xs s = has (xs.drop (k + 1)) s ∧ findS xs s = findS (xs.drop (k + 1)) s) := hid ⟨hG.out.1.trans r1, hG.out.2.trans r2⟩
        clear hq r1 r2
        go_wp2_with fail
        go_roundw
        all_goals first
          | exact ⟨k + 1, by go_num, by omega, HR, HB.out.alloc hwr _⟩
          | (simp [intOf]; omega)
    · obtain rfl : k = n := by omega
      have HR : Hid (has xs s = false ∧ findS xs s = ⟨⟨#[]⟩, 0, 0, 0⟩) := hid (by rw [hG.out.1, hG.out.2, List.drop_eq_nil_of_le (by have := Hl.out; omega)]; exact ⟨rfl, rfl⟩)
      have hl := load4 _ _ _ (put4_row hrow (.string ⟨#[]⟩) (.int .i64 0) (.int .i64 0) (.int .i64 0)) rfl
      have hbb := (hb0.trans (hb.mono (by omega)))
      have hbb2 := put4_below hbb (show w.heap.size ≤ w.heap.size + 1 by omega) (.string ⟨#[]⟩) (.int .i64 0) (.int .i64 0) (.int .i64 0)
      unfold put4 at hl hbb2
      clear hb hbb
      go_wp2_with fail
      exact bodyPost_ret (v := .tuple #[.agg #[.string ⟨#[]⟩, .int .i64 0, .int .i64 0, .int .i64 0], .bool false]) (by simp [results, Try.results14, asAddr, hl]) rfl ⟨by rw [HR.out.1, HR.out.2]; rfl, hbb2⟩
end Go.Proofs.Ytkacndinjomifaa.Obj
