/-
  A statement of the reference's Encode whose order is open: the name's bytes and the spaces are made in either order, then joined. Every order ends alike.
-/
import Derived.Test.YtfhdgbpkhcnanaaDoorHra
import Derived.Orders
namespace Go.Proofs.YtfhdgbpkhcnanaaDoor.Hdr
open Go.RowKit Go.Proofs Go.Proofs.YtfhdgbpkhcnanaaDoor.Byt Go.Proofs.YtfhdgbpkhcnanaaDoor.Str Go.Proofs.YtfhdgbpkhcnanaaDoor.Dec

def oa : Oper := { dst := some 75, op := .fieldAddr 23 (.tmp 1) 0, type := 0, pos := "ref.go:57", after := #[], guard := none }
def ob : Oper := { dst := some 76, op := .load 9 (.tmp 75), type := 9, pos := "ref.go:57", after := #[{ on := 0, ground := .data }], guard := none }
def oc : Oper := { dst := some 77, op := .convert 9 24 (.tmp 76), type := 24, pos := "ref.go:57", after := #[{ on := 1, ground := .data }], guard := none }
def od : Oper := { dst := some 78, op := .fieldAddr 23 (.tmp 1) 0, type := 0, pos := "ref.go:57", after := #[], guard := none }
def oe : Oper := { dst := some 79, op := .load 9 (.tmp 78), type := 9, pos := "ref.go:57", after := #[{ on := 3, ground := .data }], guard := none }
def of : Oper := { dst := some 80, op := .call { callee := .builtin .len, args := #[.tmp 79], argTypes := #[9] }, type := 3, pos := "ref.go:57", after := #[{ on := 4, ground := .data }], guard := none }
def og : Oper := { dst := some 81, op := .binOp .sub 3 (.const (.int .i64 16)) (.tmp 80) 3, type := 3, pos := "ref.go:57", after := #[{ on := 5, ground := .data }], guard := none }
def oh : Oper := { dst := some 82, op := .call { callee := .value (.func 24), args := #[.tmp 81], argTypes := #[3] }, type := 24, pos := "ref.go:57", after := #[{ on := 6, ground := .data }], guard := none }
def oi : Oper := { dst := some 83, op := .call { callee := .builtin .append, args := #[.tmp 77, .tmp 82], argTypes := #[24, 24] }, type := 24, pos := "ref.go:57", after := #[{ on := 2, ground := .data }, { on := 7, ground := .data }, { on := 7, ground := .chain }], guard := none }
def oj : Oper := { dst := some 15, op := .assign (.tmp 83), type := 24, pos := "ref.go:57", after := #[{ on := 8, ground := .data }, { on := 8, ground := .chain }, { on := 0, ground := .phase }, { on := 1, ground := .phase }, { on := 2, ground := .phase },
  { on := 3, ground := .phase }, { on := 4, ground := .phase }, { on := 5, ground := .phase }, { on := 6, ground := .phase }, { on := 7, ground := .phase }, { on := 8, ground := .phase }], guard := none }
def ops11 : Array Oper := #[oa, ob, oc, od, oe, of, og, oh, oi, oj]

/-- The frame but for the statement's own slots. -/
def Keeps (a0 a : Act) : Prop := a.defers = a0.defers ∧ a.tmps.size = a0.tmps.size ∧ ∀ k, k ≠ 15 → (k < 75 ∨ 83 < k) → a.tmps[k]? = a0.tmps[k]?
theorem Keeps.put {a0 a : Act} (h : Keeps a0 a) (d : Nat) (hd : 75 ≤ d ∧ d ≤ 83) (v : Value) : Keeps a0 (a.put (some d) v) := by
  refine ⟨h.1, by simp [Act.put]; exact h.2.1, fun k h15 hk => ?_⟩
  show (a.tmps.setIfInBounds d v)[k]? = _
  rw [Array.getElem?_setIfInBounds_ne (by omega)]
  exact h.2.2 k h15 hk
theorem Keeps.put15 {a0 a : Act} (h : Keeps a0 a) (v : Value) : Keeps a0 (a.put (some 15) v) := by
  refine ⟨h.1, by simp [Act.put]; exact h.2.1, fun k h15 hk => ?_⟩
  show (a.tmps.setIfInBounds 15 v)[k]? = _
  rw [Array.getElem?_setIfInBounds_ne (by omega)]
  exact h.2.2 k h15 hk
theorem eval_same {a : Act} {d : Nat} (hd : d < a.tmps.size) (v : Value) : (a.put (some d) v).eval (.tmp d) = v := by
  show (a.tmps.setIfInBounds d v).getD d undef = v
  simp [Array.getD_eq_getD_getElem?, hd]
theorem eval_other {a : Act} {d k : Nat} (h : d ≠ k) (v : Value) : (a.put (some d) v).eval (.tmp k) = a.eval (.tmp k) := by
  show (a.tmps.setIfInBounds d v).getD k undef = a.tmps.getD k undef
  rw [Array.getD_eq_getD_getElem?, Array.getD_eq_getD_getElem?, Array.getElem?_setIfInBounds_ne h]
theorem Keeps.one {a0 a : Act} (h : Keeps a0 a) : a.eval (.tmp 1) = a0.eval (.tmp 1) := by
  show a.tmps.getD 1 undef = a0.tmps.getD 1 undef
  rw [Array.getD_eq_getD_getElem?, Array.getD_eq_getD_getElem?, h.2.2 1 (by omega) (by omega)]

/-- The frame, rebuilt out of what the statement's slots hold. -/
def built (a0 : Act) (u75 u76 u77 u78 u79 u80 u81 u82 u83 v : Value) : Act :=
  (((((((((a0.put (some 75) u75).put (some 76) u76).put (some 77) u77).put (some 78) u78).put (some 79) u79).put (some 80) u80).put (some 81) u81).put (some 82) u82).put (some 83) u83).put (some 15) v
theorem Keeps.rebuilt {a0 a : Act} (h : Keeps a0 a) (hz : a0.tmps.size = 98) : a = built a0 (a.eval (.tmp 75)) (a.eval (.tmp 76)) (a.eval (.tmp 77)) (a.eval (.tmp 78)) (a.eval (.tmp 79)) (a.eval (.tmp 80)) (a.eval (.tmp 81)) (a.eval (.tmp 82)) (a.eval (.tmp 83)) (a.eval (.tmp 15)) := by
  obtain ⟨tm, df⟩ := a
  obtain ⟨h1, h2, h3⟩ := h
  simp only at h1 h2 h3
  subst h1
  unfold built Act.put Act.eval
  simp only [Act.mk.injEq, and_true]
  apply Array.ext_getElem?
  intro k
  have hk : k = 15 ∨ k = 75 ∨ k = 76 ∨ k = 77 ∨ k = 78 ∨ k = 79 ∨ k = 80 ∨ k = 81 ∨ k = 82 ∨ k = 83 ∨ (k ≠ 15 ∧ (k < 75 ∨ 83 < k)) := by omega
  rcases hk with rfl | rfl | rfl | rfl | rfl | rfl | rfl | rfl | rfl | rfl | ⟨hk1, hk2⟩
  iterate 10
    · simp [hz, Array.getD_eq_getD_getElem?, h2]
  · rw [h3 k hk1 hk2]
    repeat rw [Array.getElem?_setIfInBounds_ne (by omega)]

theorem doOp {ops : Array Oper} {Q : Exit → Act → World → Prop} {i : Nat} {o : Oper} {K : Act → World → Prop} {a : Act} {w : World} (ho : ops[i]? = some o) (hg : o.guard = none) (h : o.wp Tryd.prog a w K Q) : wpOp Tryd.prog ops Q i K a w := by
  unfold wpOp
  rw [ho]
  simp only [Region.wanted, hg, if_true]
  exact .inl h

theorem run_appr (w : World) (K : Nat) (ty : TypeId) (v : Value) (n : Nat) (l : List UInt8) (hown : Own w K v n l) (hK : K ≤ w.heap.size) (A : Option Addr) (k c B : Nat) (src : List UInt8) (hr : Rd w B A k src) (hsz : n + k ≤ 140737488355328) :
    ∃ v' w', (Builtin.append_ #[24, 24] ty #[v, .slice A k c]).run Tryd.prog w = .ok v' w' ∧ Own w' K v' (n + k) (l ++ src) ∧ Below K w w' := by
  rcases A with _ | ad
  · have hk : k = 0 := by
      rcases Nat.eq_zero_or_pos k with h0 | h0
      · exact h0
      · obtain ⟨b, o', e, _⟩ := hr.2 0 (by have := hr.1; omega)
        cases e
    subst hk
    have hn : src = [] := List.eq_nil_of_length_eq_zero hr.1
    subst hn
    obtain ⟨i, hi, hz0, hz1, hz2⟩ := info_parts infoB
    have ht := Tryd.underlying24
    refine ⟨v, w, ?_, by simpa using hown, Below.refl _ _⟩
    rcases hown.2 with ⟨rfl, rfl⟩ | ⟨g, cap, cur, m, rfl, _, _, hnc, _⟩
    · simp [Builtin.append_, run_underlying ht, sizeOf, typeInfo, hi, Builtin.lenOf, Builtin.firstCells]
    · simp [Builtin.append_, run_underlying ht, sizeOf, typeInfo, hi, Builtin.lenOf, Builtin.firstCells, hnc, storeCells]
  · refine run_app w K ty v n l hown hK ad k c src hr.1 (fun j u hj => ?_) hsz
    unfold enc at hj
    rw [List.getElem?_map] at hj
    rcases hx : src[j]? with _ | y
    · rw [hx] at hj; cases hj
    · rw [hx] at hj
      obtain ⟨hlt, rfl⟩ := List.getElem?_eq_some_iff.1 hx
      obtain ⟨b, o', e, _, hc⟩ := hr.2 j hlt
      injection e with e
      subst e
      have ha : (⟨b, o', none⟩ : Addr).add j = ⟨b, o' + j, none⟩ := by unfold Addr.add; split <;> simp_all
      rw [ha, hc]
      exact hj

section
variable {Q : Exit → Act → World → Prop} {K' : Act → World → Prop} {a : Act} {w : World} {K B : Nat} {s : ByteArray}
theorem wp_addr {d : Nat} {o : Oper} (ho : o.op = .fieldAddr 23 (.tmp 1) 0) (hd : o.dst = some d) (hp : a.eval (.tmp 1) = .pointer (some ⟨B, 0, none⟩)) (h : K' (a.put (some d) (.pointer (some ⟨B, 0, none⟩))) w) : o.wp Tryd.prog a w K' Q := by
  have hr : (Go.Instr.fieldAt 23 (.pointer (some ⟨B, 0, none⟩)) 0).run Tryd.prog w = Go.Result.ok (.pointer (some ⟨B, 0, none⟩)) w := by kernel_rfl
  unfold Oper.wp execOp
  simp only [ho, hp, Sem.run_bind, Sem.run_pure, hr, Result.andThen_ok, Oper.upon, hd]
  exact h
theorem wp_name {d f : Nat} {o : Oper} (ho : o.op = .load 9 (.tmp f)) (hd : o.dst = some d) (hp : a.eval (.tmp f) = .pointer (some ⟨B, 0, none⟩)) (hc : w.cell? ⟨B, 0, none⟩ = some (.string s)) (h : K' (a.put (some d) (.string s)) w) : o.wp Tryd.prog a w K' Q := by
  have hr : (Go.Instr.loadAt 9 (.pointer (some ⟨B, 0, none⟩))).run Tryd.prog w = Go.Result.ok (.string s) w := by simp [go_sem, hc]
  unfold Oper.wp execOp
  simp only [ho, hp, Sem.run_bind, Sem.run_pure, hr, Result.andThen_ok, Oper.upon, hd]
  exact h
theorem wp_conv (hp : a.eval (.tmp 76) = .string s) (hs : s.size ≤ 16) (hK : K ≤ w.heap.size) (h : ∀ v w', Own w' K v s.size (by_ s) → Below w.heap.size w w' → K' (a.put (some 77) v) w') : oc.wp Tryd.prog a w K' Q := by
  have hrun := run_bytes_of_string (P := Tryd.prog) w 9 24 5 s Tryd.underlying9 Tryd.underlying24 Tryd.underlying5
  have hl := by_length s
  unfold Oper.wp execOp
  simp only [oc, hp, Sem.run_bind, Sem.run_pure, hrun, Result.andThen_ok, Oper.upon]
  refine h _ _ ⟨hl, .inr ⟨w.heap.size, _, _, _, rfl, hK, heap_alloc_new w.drew _, grownCap_ge _ _ _ _, grownCap_le_maxLen _ _ _ _ (by unfold maxLen; omega), ?_, ?_, ?_⟩⟩ ((Below.refl _ w).drew.alloc (Nat.le_refl _) _)
  · have := grownCap_ge w s.size 0 5
    have h2 : s.data.size = s.size := rfl
    simp [bytesRow, h2]; omega
  · have h2 : s.data.size = s.size := rfl
    simp [bytesRow, enc, by_, h2]
  · intro j hj
    have := grownCap_ge w s.size 0 5
    simp [bytesRow]; omega
theorem wp_len (hp : a.eval (.tmp 79) = .string s) (h : K' (a.put (some 80) (.int .i64 (s.size : Int))) w) : of.wp Tryd.prog a w K' Q := by
  unfold Oper.wp execOp
  simp only [of, resolve, invoke, builtin, Sem.run_bind, Sem.run_pure, Result.andThen_ok, List.map_toArray, List.map_cons, List.map_nil, hp]
  simp [go_sem]
  exact h
theorem wp_sub (hp : a.eval (.tmp 80) = .int .i64 (s.size : Int)) (hs : s.size ≤ 16) (h : K' (a.put (some 81) (.int .i64 ((16 - s.size : Nat) : Int))) w) : og.wp Tryd.prog a w K' Q := by
  have hc : a.eval (.const (.int .i64 16)) = .int .i64 16 := rfl
  have e := two_sub hs
  unfold Oper.wp execOp
  simp only [og, hp, hc]
  simp [go_sem]
  have ew : IntKind.i64.wrap (16 - (s.size : Int)) = ((16 - s.size : Nat) : Int) := by rw [wrap_small _ (by omega) (by omega)]; exact e
  rw [ew]
  exact h
theorem wp_sp (hp : a.eval (.tmp 81) = .int .i64 ((16 - s.size : Nat) : Int)) (h : ∀ v w', Own w' w.heap.size v (16 - s.size) (List.replicate (16 - s.size) 32) → Below w.heap.size w w' → K' (a.put (some 82) v) w') : oh.wp Tryd.prog a w K' Q := by
  have hc : a.eval (.func 24) = .func (.func 24) #[] #[] := rfl
  have hp' : a.tmps[81]?.getD undef = .int .i64 ((16 - s.size : Nat) : Int) := by
    rw [← hp]; exact (Array.getD_eq_getD_getElem?).symm
  unfold Oper.wp execOp
  simp only [oh, resolve, hc]
  simp [go_sem]
  rw [hp']
  refine (rspaces_any (16 - s.size) w (by omega)).mono ?_
  rintro e w' ⟨v, rfl, h1, h2⟩
  exact h v w' h1 h2
theorem wp_app (h1 : Own w K (a.eval (.tmp 77)) s.size (by_ s)) (h2 : Own w K (a.eval (.tmp 82)) (16 - s.size) (List.replicate (16 - s.size) 32)) (hs : s.size ≤ 16) (hK : K ≤ w.heap.size)
    (h : ∀ v w', Own w' K v 16 (by_ s ++ List.replicate (16 - s.size) 32) → Below K w w' → K' (a.put (some 83) v) w') : oi.wp Tryd.prog a w K' Q := by
  obtain ⟨A, c, hv, hr, _, _⟩ := h2.reads
  have e1 : s.size + (16 - s.size) = 16 := by omega
  obtain ⟨v', w', hrun, g1, g2⟩ := run_appr w K oi.type _ s.size (by_ s) h1 hK A (16 - s.size) c _ _ hr (by omega)
  rw [e1] at g1
  rw [← hv] at hrun
  unfold Oper.wp execOp
  have ho : oi.op = .call { callee := .builtin .append, args := #[.tmp 77, .tmp 82], argTypes := #[24, 24] } := rfl
  simp only [ho, resolve, invoke, builtin, Sem.run_bind, Sem.run_pure, Result.andThen_ok, List.map_toArray, List.map_cons, List.map_nil, hrun]
  exact h v' w' g1 g2
theorem wp_asg (h : K' (a.put (some 15) (a.eval (.tmp 83))) w) : oj.wp Tryd.prog a w K' Q := by
  unfold Oper.wp execOp
  simp only [oj]
  exact h
end

section
variable {Q : Exit → Act → World → Prop} {a0 : Act} {w0 : World} {K B : Nat} {s : ByteArray}
def Sa (K B : Nat) (s : ByteArray) (i : Nat) (a : Act) (w : World) : Prop :=
  (1 ≤ i → a.eval (.tmp 75) = .pointer (some ⟨B, 0, none⟩)) ∧ (2 ≤ i → a.eval (.tmp 76) = .string s) ∧ (3 ≤ i → Own w K (a.eval (.tmp 77)) s.size (by_ s))
def Sb (K B : Nat) (s : ByteArray) (j : Nat) (a : Act) (w : World) : Prop :=
  (1 ≤ j → a.eval (.tmp 78) = .pointer (some ⟨B, 0, none⟩)) ∧ (2 ≤ j → a.eval (.tmp 79) = .string s) ∧ (3 ≤ j → a.eval (.tmp 80) = .int .i64 (s.size : Int)) ∧ (4 ≤ j → a.eval (.tmp 81) = .int .i64 ((16 - s.size : Nat) : Int)) ∧
    (5 ≤ j → Own w K (a.eval (.tmp 82)) (16 - s.size) (List.replicate (16 - s.size) 32))
structure St (a0 : Act) (w0 : World) (K B : Nat) (s : ByteArray) (i j : Nat) (a : Act) (w : World) : Prop where
  keeps : Keeps a0 a
  below : Below K w0 w
  sa : Sa K B s i a w
  sb : Sb K B s j a w
/-- What does not change with the statement. -/
structure Fix (a0 : Act) (w0 : World) (K B : Nat) (s : ByteArray) : Prop where
  size : a0.tmps.size = 98
  one : a0.eval (.tmp 1) = .pointer (some ⟨B, 0, none⟩)
  name : w0.cell? ⟨B, 0, none⟩ = some (.string s)
  lt : B < K
  le : K ≤ w0.heap.size
  small : s.size ≤ 16

theorem Sb.put {j : Nat} {a : Act} {w w' : World} (h : Sb K B s j a w) (hb : Below w.heap.size w w') {d : Nat} (hd : d ≤ 77) (v : Value) : Sb K B s j (a.put (some d) v) w' := by
  obtain ⟨h1, h2, h3, h4, h5⟩ := h
  refine ⟨fun hj => ?_, fun hj => ?_, fun hj => ?_, fun hj => ?_, fun hj => ?_⟩
  · rw [eval_other (by omega)]; exact h1 hj
  · rw [eval_other (by omega)]; exact h2 hj
  · rw [eval_other (by omega)]; exact h3 hj
  · rw [eval_other (by omega)]; exact h4 hj
  · rw [eval_other (by omega)]; exact (h5 hj).below hb
theorem Sa.put {i : Nat} {a : Act} {w w' : World} (h : Sa K B s i a w) (hb : Below w.heap.size w w') {d : Nat} (hd : 78 ≤ d) (v : Value) : Sa K B s i (a.put (some d) v) w' := by
  obtain ⟨h1, h2, h3⟩ := h
  refine ⟨fun hj => ?_, fun hj => ?_, fun hj => ?_⟩
  · rw [eval_other (by omega)]; exact h1 hj
  · rw [eval_other (by omega)]; exact h2 hj
  · rw [eval_other (by omega)]; exact (h3 hj).below hb

theorem St.one {i j : Nat} {a : Act} {w : World} (h : St a0 w0 K B s i j a w) (F : Fix a0 w0 K B s) : a.eval (.tmp 1) = .pointer (some ⟨B, 0, none⟩) := h.keeps.one.trans F.one
theorem St.size {i j : Nat} {a : Act} {w : World} (h : St a0 w0 K B s i j a w) (F : Fix a0 w0 K B s) : a.tmps.size = 98 := h.keeps.2.1.trans F.size
theorem St.name {i j : Nat} {a : Act} {w : World} (h : St a0 w0 K B s i j a w) (F : Fix a0 w0 K B s) : w.cell? ⟨B, 0, none⟩ = some (.string s) := by
  rw [h.below.cell (p := ⟨B, 0, none⟩) F.lt]; exact F.name
theorem St.le {i j : Nat} {a : Act} {w : World} (h : St a0 w0 K B s i j a w) (F : Fix a0 w0 K B s) : K ≤ w.heap.size := Nat.le_trans F.le h.below.size
variable {K' : Act → World → Prop} {j i : Nat} {a : Act} {w : World}
theorem goA0 (F : Fix a0 w0 K B s) (h : St a0 w0 K B s 0 j a w) (n : ∀ a w, St a0 w0 K B s 1 j a w → K' a w) : wpOp Tryd.prog ops11 Q 0 K' a w := by
  refine doOp (o := oa) rfl rfl (wp_addr rfl rfl (h.one F) (n _ _ ⟨h.keeps.put 75 (by omega) _, h.below, ⟨fun _ => ?_, fun hx => by omega, fun hx => by omega⟩, h.sb.put (Below.refl _ _) (by omega) _⟩))
  exact eval_same (by rw [h.size F]; omega) _
theorem goA1 (F : Fix a0 w0 K B s) (h : St a0 w0 K B s 1 j a w) (n : ∀ a w, St a0 w0 K B s 2 j a w → K' a w) : wpOp Tryd.prog ops11 Q 1 K' a w := by
  refine doOp (o := ob) rfl rfl (wp_name rfl rfl (h.sa.1 (by omega)) (h.name F) (n _ _ ⟨h.keeps.put 76 (by omega) _, h.below, ⟨fun _ => ?_, fun _ => ?_, fun hx => by omega⟩, h.sb.put (Below.refl _ _) (by omega) _⟩))
  · rw [eval_other (by omega)]; exact h.sa.1 (by omega)
  · exact eval_same (by rw [h.size F]; omega) _
theorem goA2 (F : Fix a0 w0 K B s) (h : St a0 w0 K B s 2 j a w) (n : ∀ a w, St a0 w0 K B s 3 j a w → K' a w) : wpOp Tryd.prog ops11 Q 2 K' a w := by
  refine doOp (o := oc) rfl rfl (wp_conv (K := K) (h.sa.2.1 (by omega)) F.small (h.le F) fun v w' h1 h2 => n _ _ ⟨h.keeps.put 77 (by omega) _, h.below.trans (h2.mono (h.le F)), ⟨fun _ => ?_, fun _ => ?_, fun _ => ?_⟩, h.sb.put h2 (by omega) _⟩)
  · rw [eval_other (by omega)]; exact h.sa.1 (by omega)
  · rw [eval_other (by omega)]; exact h.sa.2.1 (by omega)
  · rw [eval_same (by rw [h.size F]; omega)]; exact h1
theorem goB0 (F : Fix a0 w0 K B s) (h : St a0 w0 K B s i 0 a w) (n : ∀ a w, St a0 w0 K B s i 1 a w → K' a w) : wpOp Tryd.prog ops11 Q 3 K' a w := by
  refine doOp (o := od) rfl rfl (wp_addr rfl rfl (h.one F) (n _ _ ⟨h.keeps.put 78 (by omega) _, h.below, h.sa.put (Below.refl _ _) (by omega) _, ⟨fun _ => ?_, fun hx => by omega, fun hx => by omega, fun hx => by omega, fun hx => by omega⟩⟩))
  exact eval_same (by rw [h.size F]; omega) _
theorem goB1 (F : Fix a0 w0 K B s) (h : St a0 w0 K B s i 1 a w) (n : ∀ a w, St a0 w0 K B s i 2 a w → K' a w) : wpOp Tryd.prog ops11 Q 4 K' a w := by
  refine doOp (o := oe) rfl rfl (wp_name rfl rfl (h.sb.1 (by omega)) (h.name F) (n _ _ ⟨h.keeps.put 79 (by omega) _, h.below, h.sa.put (Below.refl _ _) (by omega) _, ⟨fun _ => ?_, fun _ => ?_, fun hx => by omega, fun hx => by omega, fun hx => by omega⟩⟩))
  · rw [eval_other (by omega)]; exact h.sb.1 (by omega)
  · exact eval_same (by rw [h.size F]; omega) _
theorem goB2 (F : Fix a0 w0 K B s) (h : St a0 w0 K B s i 2 a w) (n : ∀ a w, St a0 w0 K B s i 3 a w → K' a w) : wpOp Tryd.prog ops11 Q 5 K' a w := by
  refine doOp (o := of) rfl rfl (wp_len (h.sb.2.1 (by omega)) (n _ _ ⟨h.keeps.put 80 (by omega) _, h.below, h.sa.put (Below.refl _ _) (by omega) _, ⟨fun _ => ?_, fun _ => ?_, fun _ => ?_, fun hx => by omega, fun hx => by omega⟩⟩))
  · rw [eval_other (by omega)]; exact h.sb.1 (by omega)
  · rw [eval_other (by omega)]; exact h.sb.2.1 (by omega)
  · exact eval_same (by rw [h.size F]; omega) _
theorem goB3 (F : Fix a0 w0 K B s) (h : St a0 w0 K B s i 3 a w) (n : ∀ a w, St a0 w0 K B s i 4 a w → K' a w) : wpOp Tryd.prog ops11 Q 6 K' a w := by
  refine doOp (o := og) rfl rfl (wp_sub (h.sb.2.2.1 (by omega)) F.small (n _ _ ⟨h.keeps.put 81 (by omega) _, h.below, h.sa.put (Below.refl _ _) (by omega) _, ⟨fun _ => ?_, fun _ => ?_, fun _ => ?_, fun _ => ?_, fun hx => by omega⟩⟩))
  · rw [eval_other (by omega)]; exact h.sb.1 (by omega)
  · rw [eval_other (by omega)]; exact h.sb.2.1 (by omega)
  · rw [eval_other (by omega)]; exact h.sb.2.2.1 (by omega)
  · exact eval_same (by rw [h.size F]; omega) _
theorem goB4 (F : Fix a0 w0 K B s) (h : St a0 w0 K B s i 4 a w) (n : ∀ a w, St a0 w0 K B s i 5 a w → K' a w) : wpOp Tryd.prog ops11 Q 7 K' a w := by
  refine doOp (o := oh) rfl rfl (wp_sp (h.sb.2.2.2.1 (by omega)) fun v w' h1 h2 => n _ _ ⟨h.keeps.put 82 (by omega) _, h.below.trans (h2.mono (h.le F)), h.sa.put h2 (by omega) _, ⟨fun _ => ?_, fun _ => ?_, fun _ => ?_, fun _ => ?_, fun _ => ?_⟩⟩)
  · rw [eval_other (by omega)]; exact h.sb.1 (by omega)
  · rw [eval_other (by omega)]; exact h.sb.2.1 (by omega)
  · rw [eval_other (by omega)]; exact h.sb.2.2.1 (by omega)
  · rw [eval_other (by omega)]; exact h.sb.2.2.2.1 (by omega)
  · rw [eval_same (by rw [h.size F]; omega)]; exact h1.more (h.le F)

theorem region11 {id : Nat} (F : Fix a0 w0 K B s) (hQ : ∀ u75 u76 u77 u78 u79 u80 u81 u82 u83 v w, Own w K v 16 (by_ s ++ List.replicate (16 - s.size) 32) → Below K w0 w → Q .normal (built a0 u75 u76 u77 u78 u79 u80 u81 u82 u83 v) w) : (Code.region id ops11 true).wp Tryd.prog Q a0 w0 := by
  have T35 : ∀ a w, St a0 w0 K B s 3 5 a w → wpAny Tryd.prog .any ops11 Q 2 #[true, true, true, true, true, true, true, true, false, false] a w := fun a w h => by
    have er : Region.ready .any ops11 #[true, true, true, true, true, true, true, true, false, false] = [8] := by kernel_rfl
    refine ⟨fun hr => (by rw [er] at hr; cases hr), fun k hk => ?_⟩
    rw [er] at hk
    have hk' := List.mem_singleton.1 hk
    subst hk'
    refine doOp (o := oi) rfl rfl (wp_app (h.sa.2.2 (by omega)) (h.sb.2.2.2.2 (by omega)) F.small (h.le F) fun v w' h1 h2 => ?_)
    have er2 : Region.ready .any ops11 (#[true, true, true, true, true, true, true, true, false, false].setIfInBounds 8 true) = [9] := by kernel_rfl
    refine ⟨fun hr => (by rw [er2] at hr; cases hr), fun k hk => ?_⟩
    rw [er2] at hk
    have hk' := List.mem_singleton.1 hk
    subst hk'
    refine doOp (o := oj) rfl rfl (wp_asg ?_)
    refine ⟨by kernel_rfl, ?_⟩
    have hkp := ((h.keeps.put 83 (by omega) v).put15 ((a.put (some 83) v).eval (.tmp 83)))
    rw [hkp.rebuilt F.size]
    refine hQ _ _ _ _ _ _ _ _ _ _ _ ?_ (h.below.trans h2)
    rw [eval_same (by have := h.size F; simp [Act.put]; omega), eval_same (by rw [h.size F]; omega)]
    exact h1
  have T34 : ∀ a w, St a0 w0 K B s 3 4 a w → wpAny Tryd.prog .any ops11 Q 3 #[true, true, true, true, true, true, true, false, false, false] a w := fun a w h => by
    have er : Region.ready .any ops11 #[true, true, true, true, true, true, true, false, false, false] = [7] := by kernel_rfl
    refine ⟨fun hr => (by rw [er] at hr; cases hr), fun k hk => ?_⟩
    rw [er] at hk
    have hk' := hk
    rw [List.mem_singleton] at hk'
    subst hk'
    exact goB4 F h T35
  have T25 : ∀ a w, St a0 w0 K B s 2 5 a w → wpAny Tryd.prog .any ops11 Q 3 #[true, true, false, true, true, true, true, true, false, false] a w := fun a w h => by
    have er : Region.ready .any ops11 #[true, true, false, true, true, true, true, true, false, false] = [2] := by kernel_rfl
    refine ⟨fun hr => (by rw [er] at hr; cases hr), fun k hk => ?_⟩
    rw [er] at hk
    have hk' := hk
    rw [List.mem_singleton] at hk'
    subst hk'
    exact goA2 F h T35
  have T33 : ∀ a w, St a0 w0 K B s 3 3 a w → wpAny Tryd.prog .any ops11 Q 4 #[true, true, true, true, true, true, false, false, false, false] a w := fun a w h => by
    have er : Region.ready .any ops11 #[true, true, true, true, true, true, false, false, false, false] = [6] := by kernel_rfl
    refine ⟨fun hr => (by rw [er] at hr; cases hr), fun k hk => ?_⟩
    rw [er] at hk
    have hk' := hk
    rw [List.mem_singleton] at hk'
    subst hk'
    exact goB3 F h T34
  have T24 : ∀ a w, St a0 w0 K B s 2 4 a w → wpAny Tryd.prog .any ops11 Q 4 #[true, true, false, true, true, true, true, false, false, false] a w := fun a w h => by
    have er : Region.ready .any ops11 #[true, true, false, true, true, true, true, false, false, false] = [2, 7] := by kernel_rfl
    refine ⟨fun hr => (by rw [er] at hr; cases hr), fun k hk => ?_⟩
    rw [er] at hk
    have hk' := hk
    rw [List.mem_cons, List.mem_singleton] at hk'
    rcases hk' with rfl | rfl
    · exact goA2 F h T34
    · exact goB4 F h T25
  have T15 : ∀ a w, St a0 w0 K B s 1 5 a w → wpAny Tryd.prog .any ops11 Q 4 #[true, false, false, true, true, true, true, true, false, false] a w := fun a w h => by
    have er : Region.ready .any ops11 #[true, false, false, true, true, true, true, true, false, false] = [1] := by kernel_rfl
    refine ⟨fun hr => (by rw [er] at hr; cases hr), fun k hk => ?_⟩
    rw [er] at hk
    have hk' := hk
    rw [List.mem_singleton] at hk'
    subst hk'
    exact goA1 F h T25
  have T32 : ∀ a w, St a0 w0 K B s 3 2 a w → wpAny Tryd.prog .any ops11 Q 5 #[true, true, true, true, true, false, false, false, false, false] a w := fun a w h => by
    have er : Region.ready .any ops11 #[true, true, true, true, true, false, false, false, false, false] = [5] := by kernel_rfl
    refine ⟨fun hr => (by rw [er] at hr; cases hr), fun k hk => ?_⟩
    rw [er] at hk
    have hk' := hk
    rw [List.mem_singleton] at hk'
    subst hk'
    exact goB2 F h T33
  have T23 : ∀ a w, St a0 w0 K B s 2 3 a w → wpAny Tryd.prog .any ops11 Q 5 #[true, true, false, true, true, true, false, false, false, false] a w := fun a w h => by
    have er : Region.ready .any ops11 #[true, true, false, true, true, true, false, false, false, false] = [2, 6] := by kernel_rfl
    refine ⟨fun hr => (by rw [er] at hr; cases hr), fun k hk => ?_⟩
    rw [er] at hk
    have hk' := hk
    rw [List.mem_cons, List.mem_singleton] at hk'
    rcases hk' with rfl | rfl
    · exact goA2 F h T33
    · exact goB3 F h T24
  have T14 : ∀ a w, St a0 w0 K B s 1 4 a w → wpAny Tryd.prog .any ops11 Q 5 #[true, false, false, true, true, true, true, false, false, false] a w := fun a w h => by
    have er : Region.ready .any ops11 #[true, false, false, true, true, true, true, false, false, false] = [1, 7] := by kernel_rfl
    refine ⟨fun hr => (by rw [er] at hr; cases hr), fun k hk => ?_⟩
    rw [er] at hk
    have hk' := hk
    rw [List.mem_cons, List.mem_singleton] at hk'
    rcases hk' with rfl | rfl
    · exact goA1 F h T24
    · exact goB4 F h T15
  have T05 : ∀ a w, St a0 w0 K B s 0 5 a w → wpAny Tryd.prog .any ops11 Q 5 #[false, false, false, true, true, true, true, true, false, false] a w := fun a w h => by
    have er : Region.ready .any ops11 #[false, false, false, true, true, true, true, true, false, false] = [0] := by kernel_rfl
    refine ⟨fun hr => (by rw [er] at hr; cases hr), fun k hk => ?_⟩
    rw [er] at hk
    have hk' := hk
    rw [List.mem_singleton] at hk'
    subst hk'
    exact goA0 F h T15
  have T31 : ∀ a w, St a0 w0 K B s 3 1 a w → wpAny Tryd.prog .any ops11 Q 6 #[true, true, true, true, false, false, false, false, false, false] a w := fun a w h => by
    have er : Region.ready .any ops11 #[true, true, true, true, false, false, false, false, false, false] = [4] := by kernel_rfl
    refine ⟨fun hr => (by rw [er] at hr; cases hr), fun k hk => ?_⟩
    rw [er] at hk
    have hk' := hk
    rw [List.mem_singleton] at hk'
    subst hk'
    exact goB1 F h T32
  have T22 : ∀ a w, St a0 w0 K B s 2 2 a w → wpAny Tryd.prog .any ops11 Q 6 #[true, true, false, true, true, false, false, false, false, false] a w := fun a w h => by
    have er : Region.ready .any ops11 #[true, true, false, true, true, false, false, false, false, false] = [2, 5] := by kernel_rfl
    refine ⟨fun hr => (by rw [er] at hr; cases hr), fun k hk => ?_⟩
    rw [er] at hk
    have hk' := hk
    rw [List.mem_cons, List.mem_singleton] at hk'
    rcases hk' with rfl | rfl
    · exact goA2 F h T32
    · exact goB2 F h T23
  have T13 : ∀ a w, St a0 w0 K B s 1 3 a w → wpAny Tryd.prog .any ops11 Q 6 #[true, false, false, true, true, true, false, false, false, false] a w := fun a w h => by
    have er : Region.ready .any ops11 #[true, false, false, true, true, true, false, false, false, false] = [1, 6] := by kernel_rfl
    refine ⟨fun hr => (by rw [er] at hr; cases hr), fun k hk => ?_⟩
    rw [er] at hk
    have hk' := hk
    rw [List.mem_cons, List.mem_singleton] at hk'
    rcases hk' with rfl | rfl
    · exact goA1 F h T23
    · exact goB3 F h T14
  have T04 : ∀ a w, St a0 w0 K B s 0 4 a w → wpAny Tryd.prog .any ops11 Q 6 #[false, false, false, true, true, true, true, false, false, false] a w := fun a w h => by
    have er : Region.ready .any ops11 #[false, false, false, true, true, true, true, false, false, false] = [0, 7] := by kernel_rfl
    refine ⟨fun hr => (by rw [er] at hr; cases hr), fun k hk => ?_⟩
    rw [er] at hk
    have hk' := hk
    rw [List.mem_cons, List.mem_singleton] at hk'
    rcases hk' with rfl | rfl
    · exact goA0 F h T14
    · exact goB4 F h T05
  have T30 : ∀ a w, St a0 w0 K B s 3 0 a w → wpAny Tryd.prog .any ops11 Q 7 #[true, true, true, false, false, false, false, false, false, false] a w := fun a w h => by
    have er : Region.ready .any ops11 #[true, true, true, false, false, false, false, false, false, false] = [3] := by kernel_rfl
    refine ⟨fun hr => (by rw [er] at hr; cases hr), fun k hk => ?_⟩
    rw [er] at hk
    have hk' := hk
    rw [List.mem_singleton] at hk'
    subst hk'
    exact goB0 F h T31
  have T21 : ∀ a w, St a0 w0 K B s 2 1 a w → wpAny Tryd.prog .any ops11 Q 7 #[true, true, false, true, false, false, false, false, false, false] a w := fun a w h => by
    have er : Region.ready .any ops11 #[true, true, false, true, false, false, false, false, false, false] = [2, 4] := by kernel_rfl
    refine ⟨fun hr => (by rw [er] at hr; cases hr), fun k hk => ?_⟩
    rw [er] at hk
    have hk' := hk
    rw [List.mem_cons, List.mem_singleton] at hk'
    rcases hk' with rfl | rfl
    · exact goA2 F h T31
    · exact goB1 F h T22
  have T12 : ∀ a w, St a0 w0 K B s 1 2 a w → wpAny Tryd.prog .any ops11 Q 7 #[true, false, false, true, true, false, false, false, false, false] a w := fun a w h => by
    have er : Region.ready .any ops11 #[true, false, false, true, true, false, false, false, false, false] = [1, 5] := by kernel_rfl
    refine ⟨fun hr => (by rw [er] at hr; cases hr), fun k hk => ?_⟩
    rw [er] at hk
    have hk' := hk
    rw [List.mem_cons, List.mem_singleton] at hk'
    rcases hk' with rfl | rfl
    · exact goA1 F h T22
    · exact goB2 F h T13
  have T03 : ∀ a w, St a0 w0 K B s 0 3 a w → wpAny Tryd.prog .any ops11 Q 7 #[false, false, false, true, true, true, false, false, false, false] a w := fun a w h => by
    have er : Region.ready .any ops11 #[false, false, false, true, true, true, false, false, false, false] = [0, 6] := by kernel_rfl
    refine ⟨fun hr => (by rw [er] at hr; cases hr), fun k hk => ?_⟩
    rw [er] at hk
    have hk' := hk
    rw [List.mem_cons, List.mem_singleton] at hk'
    rcases hk' with rfl | rfl
    · exact goA0 F h T13
    · exact goB3 F h T04
  have T20 : ∀ a w, St a0 w0 K B s 2 0 a w → wpAny Tryd.prog .any ops11 Q 8 #[true, true, false, false, false, false, false, false, false, false] a w := fun a w h => by
    have er : Region.ready .any ops11 #[true, true, false, false, false, false, false, false, false, false] = [2, 3] := by kernel_rfl
    refine ⟨fun hr => (by rw [er] at hr; cases hr), fun k hk => ?_⟩
    rw [er] at hk
    have hk' := hk
    rw [List.mem_cons, List.mem_singleton] at hk'
    rcases hk' with rfl | rfl
    · exact goA2 F h T30
    · exact goB0 F h T21
  have T11 : ∀ a w, St a0 w0 K B s 1 1 a w → wpAny Tryd.prog .any ops11 Q 8 #[true, false, false, true, false, false, false, false, false, false] a w := fun a w h => by
    have er : Region.ready .any ops11 #[true, false, false, true, false, false, false, false, false, false] = [1, 4] := by kernel_rfl
    refine ⟨fun hr => (by rw [er] at hr; cases hr), fun k hk => ?_⟩
    rw [er] at hk
    have hk' := hk
    rw [List.mem_cons, List.mem_singleton] at hk'
    rcases hk' with rfl | rfl
    · exact goA1 F h T21
    · exact goB1 F h T12
  have T02 : ∀ a w, St a0 w0 K B s 0 2 a w → wpAny Tryd.prog .any ops11 Q 8 #[false, false, false, true, true, false, false, false, false, false] a w := fun a w h => by
    have er : Region.ready .any ops11 #[false, false, false, true, true, false, false, false, false, false] = [0, 5] := by kernel_rfl
    refine ⟨fun hr => (by rw [er] at hr; cases hr), fun k hk => ?_⟩
    rw [er] at hk
    have hk' := hk
    rw [List.mem_cons, List.mem_singleton] at hk'
    rcases hk' with rfl | rfl
    · exact goA0 F h T12
    · exact goB2 F h T03
  have T10 : ∀ a w, St a0 w0 K B s 1 0 a w → wpAny Tryd.prog .any ops11 Q 9 #[true, false, false, false, false, false, false, false, false, false] a w := fun a w h => by
    have er : Region.ready .any ops11 #[true, false, false, false, false, false, false, false, false, false] = [1, 3] := by kernel_rfl
    refine ⟨fun hr => (by rw [er] at hr; cases hr), fun k hk => ?_⟩
    rw [er] at hk
    have hk' := hk
    rw [List.mem_cons, List.mem_singleton] at hk'
    rcases hk' with rfl | rfl
    · exact goA1 F h T20
    · exact goB0 F h T11
  have T01 : ∀ a w, St a0 w0 K B s 0 1 a w → wpAny Tryd.prog .any ops11 Q 9 #[false, false, false, true, false, false, false, false, false, false] a w := fun a w h => by
    have er : Region.ready .any ops11 #[false, false, false, true, false, false, false, false, false, false] = [0, 4] := by kernel_rfl
    refine ⟨fun hr => (by rw [er] at hr; cases hr), fun k hk => ?_⟩
    rw [er] at hk
    have hk' := hk
    rw [List.mem_cons, List.mem_singleton] at hk'
    rcases hk' with rfl | rfl
    · exact goA0 F h T11
    · exact goB1 F h T02
  have T00 : ∀ a w, St a0 w0 K B s 0 0 a w → wpAny Tryd.prog .any ops11 Q 10 #[false, false, false, false, false, false, false, false, false, false] a w := fun a w h => by
    have er : Region.ready .any ops11 #[false, false, false, false, false, false, false, false, false, false] = [0, 3] := by kernel_rfl
    refine ⟨fun hr => (by rw [er] at hr; cases hr), fun k hk => ?_⟩
    rw [er] at hk
    have hk' := hk
    rw [List.mem_cons, List.mem_singleton] at hk'
    rcases hk' with rfl | rfl
    · exact goA0 F h T10
    · exact goB0 F h T01
  refine wp_region_any (by kernel_rfl) (T00 a0 _ ⟨⟨rfl, rfl, fun _ _ _ => rfl⟩, (Below.refl K w0).drew, ⟨fun hx => by omega, fun hx => by omega, fun hx => by omega⟩, ⟨fun hx => by omega, fun hx => by omega, fun hx => by omega, fun hx => by omega, fun hx => by omega⟩⟩)
end
end Go.Proofs.YtfhdgbpkhcnanaaDoor.Hdr
