/-
  edit: what is found in lists behind a command (mathematics).
-/
import Derived.Test.YtijggpahijhpeaaZEi
namespace Go.Proofs.Ytijggpahijhpeaa.Edt
open Go.RowKit Go.Proofs Go.Proofs.Ytijggpahijhpeaa.Byt
open Go.Proofs.Ytijggpahijhpeaa.Arp (Mem RdM OwnM mcells)
open Go.Proofs.Ytijggpahijhpeaa.Arw (core MOk)

theorem findN_app : ∀ (a b : List Mem) (m : Mem), (∀ x ∈ a, x.name ≠ m.name) → findN (a ++ m :: b) m.name = some a.length
  | [], b, m, _ => by simp [findN]
  | x :: r, b, m, h => by
    rw [List.cons_append, findN, if_neg (h x (by simp)), findN_app r b m (fun y hy => h y (by simp [hy]))]
    rfl
theorem findN_first : ∀ {xs : List Mem} {s : ByteArray} {i : Nat}, findN xs s = some i → ∀ x ∈ xs.take i, x.name ≠ s
  | x :: r, s, i, h => by
    rw [findN] at h
    split at h
    · injection h with h
      subst h
      simp
    · rename_i h0
      cases hf : findN r s with
      | none => rw [hf] at h; cases h
      | some q =>
        rw [hf] at h
        injection h with h
        subst h
        intro y hy
        rw [List.take_succ_cons] at hy
        rcases List.mem_cons.1 hy with rfl | hy
        · exact h0
        · exact findN_first hf y hy
theorem findN_no : ∀ {xs : List Mem} {s : ByteArray}, findN xs s = none → ∀ x ∈ xs, x.name ≠ s
  | [], _, _ => by simp
  | x :: r, s, h => by
    rw [findN] at h
    split at h
    · cases h
    · rename_i h0
      cases hf : findN r s with
      | some q => rw [hf] at h; cases h
      | none =>
        intro y hy
        rcases List.mem_cons.1 hy with rfl | hy
        · exact h0
        · exact findN_no hf y hy
theorem findI_some {xs : List Mem} {s : ByteArray} {i : Nat} (h : findN xs s = some i) : findI xs s = (i : Int) := by unfold findI; rw [h]
theorem findI_no {xs : List Mem} {s : ByteArray} (h : findN xs s = none) : findI xs s = -1 := by unfold findI; rw [h]
/-- Inserted, found and removed. -/
theorem ins_find {xs : List Mem} {k : Nat} {m : Mem} (hk : k ≤ xs.length) (h : ∀ x ∈ xs.take k, x.name ≠ m.name) : findN (insM xs k m) m.name = some k := by
  have h1 := findN_app (xs.take k) (xs.drop k) m h
  rw [List.length_take, Nat.min_eq_left hk] at h1
  exact h1
theorem ins_del {xs : List Mem} {k : Nat} {m : Mem} (hk : k ≤ xs.length) : delM (insM xs k m) k = xs := by
  unfold delM insM
  have h1 : (xs.take k).length = k := by rw [List.length_take, Nat.min_eq_left hk]
  rw [List.take_append_of_le_length (by omega), List.take_of_length_le (by omega), List.drop_append, List.drop_eq_nil_of_le (by omega), List.nil_append, h1,
    show k + 1 - k = 1 from by omega, List.drop_succ_cons, List.drop_zero, List.take_append_drop]
theorem ins_get {xs : List Mem} {k : Nat} {m : Mem} (hk : k ≤ xs.length) (h : k < (insM xs k m).length) : (insM xs k m)[k] = m := by
  have h1 : (xs.take k).length = k := by rw [List.length_take, Nat.min_eq_left hk]
  have e : insM xs k m = xs.take k ++ m :: xs.drop k := rfl
  rw [List.getElem_of_eq e, List.getElem_append_right (by omega)]
  simp [h1]
theorem del_take (xs : List Mem) (i : Nat) : (delM xs i).take i = xs.take i := by
  unfold delM
  by_cases h : i ≤ xs.length
  · have h1 : (xs.take i).length = i := by rw [List.length_take, Nat.min_eq_left h]
    rw [List.take_append_of_le_length (by omega), List.take_of_length_le (by omega)]
  · rw [List.drop_eq_nil_of_le (by omega), List.append_nil, List.take_take, Nat.min_self]
/-- What Replace leads to. -/
structure Rep (xs : List Mem) (m : Mem) (ys : List Mem) (t : Nat) (zs : List Mem) : Prop where
  eq : ys = insM zs t m
  le : t ≤ zs.length
  find : findN ys m.name = some t
  del : delM ys t = zs
  old : ∀ i, findN xs m.name = some i → t = i ∧ zs = delM xs i ∧ i < xs.length ∧ ys.length = xs.length
  new : findN xs m.name = none → zs = xs
theorem rep_of {xs : List Mem} {m : Mem} {z : Int} {a : ByteArray} (h : (plN xs z a).2 = 0) : ∃ t zs, Rep xs m (repE xs m z a).1 t zs ∧ (repE xs m z a).2 = 0 := by
  cases hf : findN xs m.name with
  | some i =>
    obtain ⟨hi, _⟩ := findN_lt hf
    have hl := delM_length hi
    have hk : i ≤ (delM xs i).length := by omega
    rw [repE_some h hf]
    refine ⟨i, delM xs i, ⟨rfl, hk, ins_find hk (by rw [del_take]; exact findN_first hf), ins_del hk, fun j hj => ?_, fun hj => ?_⟩, rfl⟩
    · rw [hf] at hj
      injection hj with hj
      subst hj
      exact ⟨rfl, rfl, hi, by show (insM _ _ _).length = _; rw [insM_length]; omega⟩
    · rw [hf] at hj; cases hj
  | none =>
    have hk := plN_le (xs := xs) (mode := z) (a := a)
    rw [repE_none h hf]
    exact ⟨_, xs, ⟨rfl, hk, ins_find hk (fun x hx => findN_no hf x (List.mem_of_mem_take hx)), ins_del hk, fun j hj => (by rw [hf] at hj; cases hj), fun _ => rfl⟩, rfl⟩
theorem rep_bad {xs : List Mem} {m : Mem} {z : Int} {a : ByteArray} (h : (repE xs m z a).2 ≠ 0) : (repE xs m z a).1 = xs := by
  by_cases h1 : (plN xs z a).2 = 0
  · obtain ⟨_, _, _, h2⟩ := rep_of (m := m) h1
    exact absurd h2 h
  · rw [repE_bad h1]
theorem rep_good {xs : List Mem} {m : Mem} {z : Int} {a : ByteArray} (h : (repE xs m z a).2 = 0) : ∃ t zs, Rep xs m (repE xs m z a).1 t zs := by
  by_cases h1 : (plN xs z a).2 = 0
  · obtain ⟨t, zs, h2, _⟩ := rep_of (m := m) h1
    exact ⟨t, zs, h2⟩
  · rw [repE_bad h1] at h
    exact absurd h h1
theorem mov_bad {xs : List Mem} {s : ByteArray} {z : Int} {a : ByteArray} (h : (movE xs s z a).2 ≠ 0) : (movE xs s z a).1 = xs := by
  by_cases h1 : z < 0 ∨ 2 < z
  · rw [movE_13 h1]
  · cases hf : findN xs s with
    | none => rw [movE_10 h1 hf]
    | some i =>
      by_cases h2 : (plN (delM xs i) z a).2 = 0
      · obtain ⟨hi, _⟩ := findN_lt hf
        rw [movE_ok h1 hf h2 hi] at h
        exact absurd rfl h
      · rw [movE_pl h1 hf h2]
/-- All names differ. -/
def Dif (xs : List Mem) : Prop := ∀ i k (hi : i < xs.length) (hk : k < xs.length), k < i → xs[i].name ≠ xs[k].name
/-- What Move leads to. -/
structure Mov (xs : List Mem) (s : ByteArray) (z : Int) (a : ByteArray) (ys : List Mem) (t : Nat) (zs : List Mem) : Prop where
  find : findN ys s = some t
  del : delM ys t = zs
  old : delE xs s = (zs, 0)
  again : movE ys s z a = (ys, 0)
  end_ : z = 0 → ys.length = t + 1
  before : z = 1 → findN ys a = some (t + 1)
  after : z = 2 → ∃ j, findN ys a = some j ∧ t = j + 1
  mode : z = 0 ∨ z = 1 ∨ z = 2
theorem del_dif {xs : List Mem} (hd : Dif xs) {i : Nat} (hi : i < xs.length) : ∀ x ∈ delM xs i, x.name ≠ xs[i].name := fun x hx => by
  unfold delM at hx
  rcases List.mem_append.1 hx with hx | hx
  · obtain ⟨k, hk, rfl⟩ := List.getElem_of_mem hx
    rw [List.getElem_take]
    rw [List.length_take] at hk
    exact (hd i k hi (by omega) (by omega)).symm
  · obtain ⟨k, hk, rfl⟩ := List.getElem_of_mem hx
    rw [List.getElem_drop]
    rw [List.length_drop] at hk
    exact hd (i + 1 + k) i (by omega) hi (by omega)
theorem findN_ins_lt {zs : List Mem} {t j : Nat} {x : Mem} {a : ByteArray} (h : findN zs a = some j) (hj : j < t) (ht : t ≤ zs.length) : findN (insM zs t x) a = some j := by
  obtain ⟨hl, hn⟩ := findN_lt h
  have h1 := findN_app (zs.take j) (zs.drop (j + 1)) zs[j] (by rw [hn]; exact findN_first h)
  have e : zs = zs.take j ++ zs[j] :: zs.drop (j + 1) := by rw [← List.drop_eq_getElem_cons hl, List.take_append_drop]
  have e2 : insM zs t x = zs.take j ++ zs[j] :: ((zs.take t).drop (j + 1) ++ x :: zs.drop t) := by
    unfold insM
    have e3 : zs.take t = zs.take j ++ zs[j] :: (zs.take t).drop (j + 1) := by
      have h4 : j < (zs.take t).length := by rw [List.length_take]; omega
      have h5 : (zs.take t)[j] = zs[j] := List.getElem_take ..
      rw [← h5, ← List.drop_eq_getElem_cons h4]
      have h6 : zs.take j = (zs.take t).take j := by rw [List.take_take, Nat.min_eq_left (by omega)]
      rw [h6, List.take_append_drop]
    conv => lhs; rw [e3]
    rw [List.append_assoc, List.cons_append]
  rw [e2, ← hn, findN_app _ _ _ (by rw [hn]; exact findN_first h), List.length_take]
  congr 1
  omega
theorem findN_ins_ge {zs : List Mem} {t : Nat} {x : Mem} {a : ByteArray} (h : findN zs a = some t) (hx : x.name ≠ a) : findN (insM zs t x) a = some (t + 1) := by
  obtain ⟨hl, hn⟩ := findN_lt h
  have e2 : insM zs t x = (zs.take t ++ [x]) ++ zs[t] :: zs.drop (t + 1) := by
    unfold insM
    rw [List.append_assoc, ← List.drop_eq_getElem_cons hl]
    rfl
  rw [e2, ← hn, findN_app _ _ _ (fun y hy => ?_), List.length_append, List.length_take, List.length_singleton]
  · congr 1
    omega
  · rw [hn]
    rcases List.mem_append.1 hy with hy | hy
    · exact findN_first h y hy
    · rw [List.mem_singleton.1 hy]; exact hx
theorem mov_of {xs : List Mem} {s : ByteArray} {z : Int} {a : ByteArray} (hd : Dif xs) (h : (movE xs s z a).2 = 0) : ∃ t zs, Mov xs s z a (movE xs s z a).1 t zs := by
  by_cases h1 : z < 0 ∨ 2 < z
  · rw [movE_13 h1] at h; exact absurd h (by simp)
  · cases hf : findN xs s with
    | none => rw [movE_10 h1 hf] at h; exact absurd h (by simp)
    | some i =>
      by_cases h2 : (plN (delM xs i) z a).2 = 0
      · obtain ⟨hi, hn⟩ := findN_lt hf
        have ht := plN_le (xs := delM xs i) (mode := z) (a := a)
        have hno := del_dif hd hi
        rw [hn] at hno
        rw [movE_ok h1 hf h2 hi]
        generalize hzs : delM xs i = zs at *
        generalize htt : (plN zs z a).1 = t at *
        have hp : plN zs z a = (t, 0) := by rw [← htt, ← h2]
        have hfy : findN (insM zs t xs[i]) s = some t := by
          rw [← hn]
          exact ins_find ht (fun x hx => by rw [hn]; exact hno x (List.mem_of_mem_take hx))
        have hlen : (insM zs t xs[i]).length = zs.length + 1 := insM_length _ _ _
        refine ⟨t, zs, hfy, ins_del ht, by unfold delE; rw [hf]; show (delM xs i, (0 : Int)) = _; rw [hzs], ?_, fun hz => ?_, fun hz => ?_, fun hz => ?_, by omega⟩
        · have hlt : t < (insM zs t xs[i]).length := by omega
          rw [movE_ok h1 hfy (by rw [ins_del ht, hp]) hlt, ins_del ht, hp, ins_get ht hlt]
        · have : t = zs.length := by
            unfold plN at hp
            rw [if_neg h1, if_pos hz] at hp
            injection hp with hp _
            exact hp.symm
          show (insM zs t xs[i]).length = t + 1
          omega
        · unfold plN at hp
          rw [if_neg h1, if_neg (by omega)] at hp
          cases hfa : findN zs a with
          | none => rw [hfa] at hp; injection hp with _ hp; exact absurd hp (by decide)
          | some j =>
            rw [hfa] at hp
            simp only [if_neg (show ¬ z = 2 by omega)] at hp
            injection hp with hp _
            subst hp
            refine findN_ins_ge hfa (fun e => ?_)
            obtain ⟨hj, hjn⟩ := findN_lt hfa
            exact hno _ (List.getElem_mem hj) (by rw [hjn, ← e, hn])
        · unfold plN at hp
          rw [if_neg h1, if_neg (by omega)] at hp
          cases hfa : findN zs a with
          | none => rw [hfa] at hp; injection hp with _ hp; exact absurd hp (by decide)
          | some j =>
            rw [hfa] at hp
            simp only [if_pos hz] at hp
            injection hp with hp _
            exact ⟨j, findN_ins_lt hfa (by omega) ht, hp.symm⟩
      · rw [movE_pl h1 hf h2] at h
        exact absurd h h2
/-- Deleting what was inserted, and inserting it again before its successor. -/
theorem inv_of {xs : List Mem} {m : Mem} {z : Int} {a : ByteArray} (hf : findN xs m.name = none) (h : (repE xs m z a).2 = 0) :
    ∃ t, t ≤ xs.length ∧ (repE xs m z a).1 = insM xs t m ∧ findN (insM xs t m) m.name = some t ∧ delE (insM xs t m) m.name = (xs, 0) ∧
      ∀ (hs : t + 1 < (insM xs t m).length), findN (insM xs t m) (insM xs t m)[t + 1].name = some (t + 1) → repE xs m 1 (insM xs t m)[t + 1].name = (insM xs t m, 0) := by
  obtain ⟨t, zs, hR⟩ := rep_good h
  have hzs := hR.new hf
  rw [hzs] at hR
  refine ⟨t, hR.le, hR.eq, by rw [← hR.eq]; exact hR.find, ?_, fun hs hfs => ?_⟩
  · unfold delE
    rw [← hR.eq, hR.find]
    show (delM _ t, (0 : Int)) = _
    rw [hR.del]
  · have hl : (insM xs t m).length = xs.length + 1 := insM_length _ _ _
    have ht : t < xs.length := by omega
    have e1 : (insM xs t m)[t + 1] = xs[t] := by
      have h1 : (xs.take t).length = t := by rw [List.length_take]; omega
      have e : insM xs t m = xs.take t ++ m :: xs.drop t := rfl
      rw [List.getElem_of_eq e, List.getElem_append_right (by omega)]
      simp [h1]
    rw [e1] at hfs ⊢
    have e2 : findN xs xs[t].name = some t := by
      refine findN_hit ht rfl fun j hj hjt => ?_
      have h3 := findN_first hfs
      have h4 : xs[j] ∈ (insM xs t m).take (t + 1) := by
        have h5 : xs[j] ∈ xs.take t := by
          rw [List.mem_take_iff_getElem]
          exact ⟨j, by omega, rfl⟩
        unfold insM
        rw [List.take_append, List.mem_append, List.take_of_length_le (by rw [List.length_take]; omega)]
        exact .inl h5
      exact h3 _ h4
    have hp : plN xs 1 xs[t].name = (t, 0) := by
      unfold plN
      rw [if_neg (by omega), if_neg (by omega), e2]
      rfl
    rw [repE_none (by rw [hp]) hf, hp]
end Go.Proofs.Ytijggpahijhpeaa.Edt
