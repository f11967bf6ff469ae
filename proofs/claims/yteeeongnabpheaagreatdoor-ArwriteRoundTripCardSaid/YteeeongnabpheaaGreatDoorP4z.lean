/-
  What the laws of arparse want of slices of members and of numbers: append of a slice that is read; the header of an appended member.
-/
import Derived.Test.YteeeongnabpheaaGreatDoorMn
import Derived.Test.YteeeongnabpheaaGreatDoorMk
namespace Go.Proofs.YteeeongnabpheaaGreatDoor.Cel
open Go.RowKit Go.Proofs
open Go.Proofs.YteeeongnabpheaaGreatDoor.Sls (Oth Oth.refl Oth.new Oth.put Oth.alloc Oth.trans Fr Fr.refl Fr.new Fr.put Fr.ahead Apart blk)

/-- An empty literal that has just been laid. -/
theorem Own.lit0 (t : TypeId) (sz : Nat) (w : World) (K : Nat) (hK : K ≤ w.heap.size) : Own t sz (w.alloc (.cells #[] t)) K (.slice (some ⟨w.heap.size, 0, none⟩) 0 0) 0 [] :=
  ⟨by simp, .inr ⟨w.heap.size, 0, #[], (0, 0), rfl, hK, heap_alloc_new w _, Nat.le_refl _, by unfold maxLen; omega, by simp, by simp, fun j hj => by omega⟩⟩

theorem run_rd {st t : TypeId} {sz bs : Nat} {z : Value} (hk : Kind st t sz bs z) (w : World) (K B : Nat) (ty : TypeId) (v : Value) (n : Nat) (l : List Value) (hown : Own t sz w K v n l) (hK : K ≤ w.heap.size)
    (A : Option Addr) (k c : Nat) (src : List Value) (hr : Rd w B A k sz src) (h1 : ∀ u ∈ src, u.oneCell' = true) (hn : n + k ≤ 1000000) (hby : (n + k) * bs ≤ 140737488355328) :
    ∃ v' w', (Builtin.append_ #[st, st] ty #[v, .slice A k c]).run Tryz.prog w = .ok v' w' ∧ Own t sz w' K v' (n + k) (l ++ src) ∧ Below K w w' ∧ Fr v w v' w' := by
  have hpos := hk.pos
  rcases A with _ | ad
  · have hk0 : k = 0 := by
      rcases Nat.eq_zero_or_pos k with h0 | h0
      · exact h0
      · obtain ⟨b, o, e, _⟩ := hr.2 0 (by rw [hr.1]; exact Nat.mul_pos h0 hpos)
        cases e
    subst hk0
    have hs : src = [] := List.eq_nil_of_length_eq_zero (by rw [hr.1]; simp)
    subst hs
    obtain ⟨i, hi, hz0, hz1, hz2⟩ := info_parts hk.info
    have ht := hk.under
    refine ⟨v, w, ?_, by simpa using hown, Below.refl _ _, Fr.refl _ _⟩
    rcases hown.2 with ⟨rfl, rfl⟩ | ⟨g, cap, cur, m, rfl, _, _, hnc, _⟩
    · simp [Builtin.append_, run_underlying ht, sizeOf, typeInfo, hi, Builtin.lenOf, Builtin.firstCells]
    · simp [Builtin.append_, run_underlying ht, sizeOf, typeInfo, hi, Builtin.lenOf, Builtin.firstCells, hnc, storeCells]
  · obtain ⟨v', w', q1, q2, q3, _, q4⟩ := run_app hk w K ty v n l hown hK ad k c src hr.1 h1 (fun j u hj => by
      obtain ⟨hlt, rfl⟩ := List.getElem?_eq_some_iff.1 hj
      obtain ⟨b, o, e, _, hc⟩ := hr.2 j hlt
      injection e with e
      subst e
      have ha : (⟨b, o, none⟩ : Addr).add j = ⟨b, o + j, none⟩ := by unfold Addr.add; split <;> simp_all
      rw [ha, hc]) hn hby
    exact ⟨v', w', q1, q2, q3, q4⟩
/-- append of a slice that is read. -/
theorem wpList_rd {st t : TypeId} {sz bs : Nat} {z : Value} (hk : Kind st t sz bs z) {ops : Array Oper} {rest : List Oper} {o : Oper} {a : Act} {Q : Exit → Act → World → Prop} (w : World) (K B : Nat) (v : Value) (n : Nat) (l : List Value)
    (hown : Own t sz w K v n l) (hK : K ≤ w.heap.size) (A : Option Addr) (k c : Nat) (src : List Value) (hr : Rd w B A k sz src) (h1 : ∀ u ∈ src, u.oneCell' = true) (hn : n + k ≤ 1000000) (hby : (n + k) * bs ≤ 140737488355328) (hgd : o.guard = none) (s x : Operand)
    (ho : o.op = .call { callee := .builtin .append, args := #[s, x], argTypes := #[st, st] })
    (hs : a.eval s = v) (hx : a.eval x = .slice A k c)
    (h : ∀ v' w', Own t sz w' K v' (n + k) (l ++ src) → Below K w w' → wpList Tryz.prog ops Q rest (a.put o.dst v') w') :
    wpList Tryz.prog ops Q (o :: rest) a w := by
  refine wpList_plain hgd fun K' hK' => ?_
  obtain ⟨v', w', hrun, r1, r2, _⟩ := run_rd hk w K B o.type v n l hown hK A k c src hr h1 hn hby
  unfold Oper.wp execOp
  simp only [ho, resolve, invoke, builtin, Sem.run_bind, Sem.run_pure, Result.andThen_ok, List.map_toArray, List.map_cons, List.map_nil, hs, hx, hrun]
  exact hK' _ _ (h v' w' r1 r2)
/-- The same at a step of a region that draws its order, guarded or not. -/
theorem step_rd {st t : TypeId} {sz bs : Nat} {z : Value} (hk : Kind st t sz bs z) {ops : Array Oper} {o : Oper} {a : Act} {C : Act → World → Prop} {Q : Exit → Act → World → Prop} {E : Prop} (w : World) (K B : Nat) (v : Value) (n : Nat) (l : List Value)
    (hown : Own t sz w K v n l) (hK : K ≤ w.heap.size) (A : Option Addr) (k c : Nat) (src : List Value) (hr : Rd w B A k sz src) (h1 : ∀ u ∈ src, u.oneCell' = true) (hn : n + k ≤ 1000000) (hby : (n + k) * bs ≤ 140737488355328)
    (hw : Region.wanted o (yielded ops a.tmps) = true) (s x : Operand) (ho : o.op = .call { callee := .builtin .append, args := #[s, x], argTypes := #[st, st] }) (hs : a.eval s = v) (hx : a.eval x = .slice A k c)
    (h : ∀ v' w', Own t sz w' K v' (n + k) (l ++ src) → Below K w w' → Fr v w v' w' → C (a.put o.dst v') w') :
    if Region.wanted o (yielded ops a.tmps) = true then Oper.wp Tryz.prog o a w C Q else E := by
  rw [if_pos hw]
  obtain ⟨v', w', hrun, r1, r2, r3⟩ := run_rd hk w K B o.type v n l hown hK A k c src hr h1 hn hby
  unfold Oper.wp execOp
  simp only [ho, resolve, invoke, builtin, Sem.run_bind, Sem.run_pure, Result.andThen_ok, List.map_toArray, List.map_cons, List.map_nil, hs, hx, hrun]
  exact h v' w' r1 r2 r3
/-- A slice of one cell. -/
theorem rd1 {W : World} {q : Nat} {x : Value} {t : TypeId} {m : Nat × Nat} (h : W.heap[q]? = some (.cells #[x] t m)) : Rd W W.heap.size (some ⟨q, 0, none⟩) 1 1 [x] :=
  ⟨rfl, fun k hk => by
    have hk0 : k = 0 := by simpa using hk
    subst hk0
    exact ⟨q, 0, rfl, (Array.getElem?_eq_some_iff.1 h).1, cell_of_row W q 0 _ t m h⟩⟩
theorem Own.lit1 (t : TypeId) (sz : Nat) (W : World) (o : Obj) : Own t sz ((W.alloc o).alloc (.cells #[] t)) W.heap.size (.slice (some ⟨W.heap.size + 1, 0, none⟩) 0 0) 0 [] := by
  have := Own.lit0 t sz (W.alloc o) W.heap.size (by simp)
  rw [World.size_alloc] at this
  exact this
end Go.Proofs.YteeeongnabpheaaGreatDoor.Cel

namespace Go.Proofs.YteeeongnabpheaaGreatDoor.Arp
open Go.RowKit Go.Proofs Go.Proofs.YteeeongnabpheaaGreatDoor.Byt Go.Proofs.YteeeongnabpheaaGreatDoor.Dec Go.Proofs.YteeeongnabpheaaGreatDoor.Lnm Go.Proofs.YteeeongnabpheaaGreatDoor.Hdr
theorem mcells_one : ∀ xs : List Mem, ∀ u ∈ mcells xs, u.oneCell' = true
  | [], u, h => by simp [mcells] at h
  | x :: r, u, h => by
    rw [mcells, List.mem_append] at h
    rcases h with h | h
    · simp only [List.mem_cons, List.not_mem_nil, or_false] at h
      rcases h with rfl | rfl | rfl | rfl | rfl | rfl <;> rfl
    · exact mcells_one r u h
theorem ints_one : ∀ xs : List Int, ∀ u ∈ xs.map (Value.int .i64), u.oneCell' = true := fun xs u h => by
  obtain ⟨x, _, rfl⟩ := List.mem_map.1 h
  rfl

theorem nd_mono (B : Nat) (hB : 2 ≤ B) : ∀ (k n : Nat), n < B ^ (k + 1) → nd B n ≤ k + 1
  | 0, n, h => by rw [nd_small (by simpa using h)]; omega
  | k + 1, n, h => by
    by_cases hn : n < B
    · rw [nd_small hn]; omega
    · rw [nd_big hB (by omega)]
      have : n / B < B ^ (k + 1) := by
        rw [Nat.div_lt_iff_lt_mul (by omega)]
        rw [Nat.pow_succ] at h
        exact h
      have := nd_mono B hB k (n / B) this
      omega
theorem two_new (W : World) (o o' : Obj) : ((W.alloc o).alloc o').heap[W.heap.size + 1]? = some o' := by
  have := heap_alloc_new (W.alloc o) o'
  rw [World.size_alloc] at this
  exact this
/-- There are no more members than bytes. -/
theorem go_count : ∀ (j a : Nat) (s t : St) (l : List UInt8) (k : Nat), l.length ≤ j → go s a l = (t, k, 0) → t.mems.length ≤ s.mems.length + l.length := by
  intro j
  induction j with
  | zero =>
    intro a s t l k hj q
    obtain rfl : l = [] := List.eq_nil_of_length_eq_zero (by omega)
    rw [go_nil] at q
    injection q with q
    subst q
    omega
  | succ j ih =>
    intro a s t l k hj q
    by_cases h0 : l = []
    · subst h0
      rw [go_nil] at q
      injection q with q
      subst q
      omega
    · by_cases he : stepE s l = 0
      · have h1 := plen_pos l
        have h2 := (perr_ok (stepE_ok he)).2.1
        rw [go_on h0 he] at q
        have h3 := ih _ _ _ _ _ (by rw [List.length_drop]; omega) q
        rw [List.length_drop] at h3
        have h4 : (stepS s a l).mems.length ≤ s.mems.length + 1 := by
          unfold stepS
          split
          · show s.mems.length ≤ _; omega
          · split
            · show s.mems.length ≤ _; omega
            · simp
        omega
      · rw [go_bad h0 he] at q
        injection q with _ q
        injection q with _ q
        exact absurd q he
theorem ar_count {l : List UInt8} {t : St} (h : ar l = (t, 0, 0)) : t.mems.length ≤ l.length := by
  rw [ar_go (ar_isAr h)] at h
  have := go_count _ _ _ _ _ _ (Nat.le_refl _) h
  rw [List.length_drop] at this
  have h0 : St.zero.mems.length = 0 := rfl
  omega
/-- The name and the header of the appended member. -/
def nmNew : ByteArray := ⟨#[110, 101, 119, 46, 111, 47]⟩
theorem new_ok (m : Nat) (hm : m ≤ 100000) : eerr nmNew (num 1 0 0 0 (m : Int)) = 0 := by
  have hn : nameOk nmNew = true := by decide +kernel
  have ht : isTab nmNew = false := by decide +kernel
  have h4 : okF false 4 (m : Int) = true := by
    have : nd 10 m ≤ 9 + 1 := nd_mono 10 (by omega) 9 m (by have : (10 : Nat) ^ (9 + 1) = 10000000000 := by decide
                                                            omega)
    unfold okF
    simp only [Bool.and_false, Bool.false_eq_true, if_false, Bool.and_eq_true, decide_eq_true_eq, Int.toNat_natCast]
    exact ⟨by omega, this⟩
  refine (eerr_0 hn ?_).1
  simp only [allOk, ht, num, h4, Bool.and_true]
  decide +kernel
theorem new_name (q : List UInt8) : resv (bts nmNew) q = some ⟨#[110, 101, 119, 46, 111]⟩ := by
  have : shortOf (bts nmNew) = some ⟨#[110, 101, 119, 46, 111]⟩ := by kernel_rfl
  unfold resv
  rw [this]
end Go.Proofs.YteeeongnabpheaaGreatDoor.Arp
