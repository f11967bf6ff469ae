/-
  The mathematics of names and of the table of long names: no program in it.
-/
import Derived.Test.YtnkdcecpbjhdmaaDoorDecm
import Derived.Lib.IndexMore
import Derived.Lib.IndexAny
import Derived.Lib.Strings
import Derived.Lib.ItoaNum
namespace Go.Proofs.YtnkdcecpbjhdmaaDoor.Lnm
open Go.Proofs.YtnkdcecpbjhdmaaDoor.Dec

/-- The bytes of a string; the string of bytes. -/
def bts (s : ByteArray) : List UInt8 := s.data.toList
def str (l : List UInt8) : ByteArray := ⟨l.toArray⟩
theorem bts_str (l : List UInt8) : bts (str l) = l := by simp [bts, str]
theorem str_bts (s : ByteArray) : str (bts s) = s := by cases s; simp [bts, str]
theorem bts_inj {a b : ByteArray} (h : bts a = bts b) : a = b := by rw [← str_bts a, ← str_bts b, h]
theorem bts_length (s : ByteArray) : (bts s).length = s.size := Array.length_toList (xs := s.data)
theorem str_size (l : List UInt8) : (str l).size = l.length := by rw [← bts_length, bts_str]

/-- A byte that a name may have. -/
def okB (c : UInt8) : Bool := c != 47 && (c != 10 && c != 0)
/-- The bytes of a name. -/
def vld (l : List UInt8) : Bool := decide (1 ≤ l.length) && (decide (l.length ≤ 255) && l.all okB)
/-- The bytes of a short name. -/
def sht (l : List UInt8) : Bool := vld l && (decide (l.length ≤ 15) && !Lib.hasSuffix l [32])
theorem vld_iff {l : List UInt8} : vld l = true ↔ 1 ≤ l.length ∧ l.length ≤ 255 ∧ ∀ c ∈ l, okB c = true := by simp [vld]
theorem okB_iff {c : UInt8} : okB c = true ↔ c ≠ 47 ∧ c ≠ 10 ∧ c ≠ 0 := by simp [okB]
theorem sht_vld {l : List UInt8} (h : sht l = true) : vld l = true := by unfold sht at h; simp at h; exact h.1
theorem vld_ok {l : List UInt8} (h : vld l = true) {c : UInt8} (hc : c ∈ l) : c ≠ 47 ∧ c ≠ 10 ∧ c ≠ 0 := okB_iff.1 ((vld_iff.1 h).2.2 c hc)

/-- The table of names. -/
def tab : List ByteArray → List UInt8
  | [] => []
  | n :: r => bts n ++ ([47, 10] ++ tab r)
theorem tab_append : ∀ a b : List ByteArray, tab (a ++ b) = tab a ++ tab b
  | [], b => rfl
  | n :: r, b => by rw [List.cons_append, tab, tab_append r b, tab]; simp
theorem tab_snoc (a : List ByteArray) (n : ByteArray) : tab (a ++ [n]) = tab a ++ (bts n ++ [47, 10]) := by rw [tab_append]; simp [tab]

/-- All are names. -/
def allV (ns : List ByteArray) : Bool := ns.all fun n => vld (bts n)
theorem allV_iff {ns : List ByteArray} : allV ns = true ↔ ∀ n ∈ ns, vld (bts n) = true := by simp [allV]
theorem allV_append {a b : List ByteArray} : allV (a ++ b) = true ↔ allV a = true ∧ allV b = true := by
  rw [allV_iff, allV_iff, allV_iff]
  constructor
  · exact fun h => ⟨fun n hn => h n (by simp [hn]), fun n hn => h n (by simp [hn])⟩
  · rintro ⟨h1, h2⟩ n hn
    rcases List.mem_append.1 hn with h | h
    · exact h1 n h
    · exact h2 n h
def longs (ns : List ByteArray) : List ByteArray := ns.filter fun n => !sht (bts n)
theorem longs_append (a b : List ByteArray) : longs (a ++ b) = longs a ++ longs b := by simp [longs]
theorem longs_allV {ns : List ByteArray} (h : allV ns = true) : allV (longs ns) = true := by
  rw [allV_iff] at h ⊢
  exact fun n hn => h n (List.mem_filter.1 hn).1

/-- The field of a name behind others. -/
def fld (pre : List ByteArray) (n : ByteArray) : ByteArray := if sht (bts n) = true then str (bts n ++ [47]) else str ([47] ++ tx 10 (tab (longs pre)).length)
def flds : List ByteArray → List ByteArray → List ByteArray
  | _, [] => []
  | pre, n :: r => fld pre n :: flds (pre ++ [n]) r
theorem flds_append : ∀ (pre a b : List ByteArray), flds pre (a ++ b) = flds pre a ++ flds (pre ++ a) b
  | pre, [], b => by simp [flds]
  | pre, n :: r, b => by rw [List.cons_append, flds, flds_append (pre ++ [n]) r b, flds]; simp
theorem flds_length : ∀ (pre a : List ByteArray), (flds pre a).length = a.length
  | _, [] => rfl
  | pre, n :: r => by rw [flds, List.length_cons, List.length_cons, flds_length]
theorem flds_snoc (a : List ByteArray) (n : ByteArray) : flds [] (a ++ [n]) = flds [] a ++ [fld a n] := by rw [flds_append]; simp [flds]
theorem flds_at : ∀ (pre a : List ByteArray) (i : Nat) (h : i < a.length), (flds pre a)[i]? = some (fld (pre ++ a.take i) a[i])
  | pre, n :: r, 0, h => by simp [flds]
  | pre, n :: r, i + 1, h => by
    rw [flds, List.getElem?_cons_succ, flds_at (pre ++ [n]) r i (by simpa using h)]
    simp

/-- How long the table of names is. -/
theorem tab_len_le : ∀ (ns : List ByteArray) (k : Nat), (∀ n ∈ ns, n.size ≤ k) → (tab ns).length ≤ ns.length * (k + 2)
  | [], k, _ => by simp [tab]
  | n :: r, k, h => by
    have h1 := tab_len_le r k fun x hx => h x (by simp [hx])
    have h2 := h n (by simp)
    rw [tab, List.length_append, List.length_append, bts_length, show (n :: r).length * (k + 2) = r.length * (k + 2) + (k + 2) from Nat.succ_mul _ _]
    simp only [List.length_cons, List.length_nil]
    omega
theorem vld_size {n : ByteArray} (h : vld (bts n) = true) : 1 ≤ n.size ∧ n.size ≤ 255 := by
  have := vld_iff.1 h
  rw [bts_length] at this
  exact ⟨this.1, this.2.1⟩

/-- The name at the front, if there is one. -/
def first (l : List UInt8) : List UInt8 := if 0 ≤ Lib.index l [47, 10] ∧ vld (l.take (Lib.index l [47, 10]).toNat) = true then l.take (Lib.index l [47, 10]).toNat else []

theorem index_name {n r : List UInt8} (h : vld n = true) : Lib.index (n ++ ([47, 10] ++ r)) [47, 10] = (n.length : Int) := by
  refine Lib.index_first (by simp) ?_ fun j hj => ?_
  · unfold Lib.occAt
    rw [List.drop_left]
    simp
  · unfold Lib.occAt
    rw [List.drop_append_of_le_length (by omega), List.drop_eq_getElem_cons hj]
    have := (vld_ok h (List.getElem_mem hj)).1
    simp only [List.cons_append, List.isPrefixOf, Bool.and_eq_false_imp]
    intro e
    exact absurd (by simpa using e : (47 : UInt8) = n[j]).symm this
theorem first_name {n r : List UInt8} (h : vld n = true) : first (n ++ ([47, 10] ++ r)) = n := by
  unfold first
  rw [index_name h]
  simp [h]
theorem first_spec {l : List UInt8} (h : first l ≠ []) : vld (first l) = true ∧ l = first l ++ ([47, 10] ++ l.drop ((first l).length + 2)) := by
  unfold first at h ⊢
  split at h
  · rename_i hc
    rw [if_pos hc]
    obtain ⟨h0, hv⟩ := hc
    rcases Lib.index_spec l [47, 10] with ⟨e, _⟩ | ⟨i, e, hi, ho, _⟩
    · omega
    · rw [e] at hv ⊢
      simp only [Int.toNat_natCast] at hv ⊢
      refine ⟨hv, ?_⟩
      unfold Lib.occAt at ho
      obtain ⟨t, ht⟩ := List.isPrefixOf_iff_prefix.1 ho
      have h1 : l.drop (i + 2) = t := by rw [← List.drop_drop, ← ht]; rfl
      have h2 : (l.take i).length = i := by rw [List.length_take]; omega
      rw [h2, h1, ht, List.take_append_drop]
  · exact absurd rfl h

/-- The names of a table, up to the first entry that is none: an empty one stands for it. -/
def seq (l : List UInt8) : List ByteArray :=
  if h0 : l = [] then [] else if first l = [] then [str []] else str (first l) :: seq (l.drop ((first l).length + 2))
termination_by l.length
decreasing_by
  have : 0 < l.length := List.length_pos_iff.2 h0
  rw [List.length_drop]
  omega
theorem seq_nil : seq [] = [] := by rw [seq]; simp
theorem seq_bad {l : List UInt8} (h0 : l ≠ []) (h : first l = []) : seq l = [str []] := by rw [seq, dif_neg h0, if_pos h]
theorem seq_good {l : List UInt8} (h0 : l ≠ []) (h : first l ≠ []) : seq l = str (first l) :: seq (l.drop ((first l).length + 2)) := by rw [seq, dif_neg h0, if_neg h]
theorem seq_name {n : ByteArray} {r : List UInt8} (h : vld (bts n) = true) : seq (bts n ++ ([47, 10] ++ r)) = n :: seq r := by
  have h1 := first_name (r := r) h
  have h2 := vld_size h
  rw [← bts_length] at h2
  have hne : bts n ≠ [] := fun e => by rw [e] at h2; simp at h2
  rw [seq_good (by simp [hne]) (by rw [h1]; exact hne), h1, str_bts]
  congr 2
  rw [← List.append_assoc, List.drop_left' (by simp)]
theorem seq_tab : ∀ (ns : List ByteArray) (r : List UInt8), allV ns = true → seq (tab ns ++ r) = ns ++ seq r
  | [], r, _ => rfl
  | n :: ns, r, h => by
    obtain ⟨h1, h2⟩ := allV_append.1 (show allV ([n] ++ ns) = true from h)
    rw [tab, List.append_assoc, List.append_assoc, seq_name (allV_iff.1 h1 n (by simp)), seq_tab ns r h2, List.cons_append]

/-- The table is one. -/
def good (l : List UInt8) : Bool := (seq l).all fun n => n.size != 0
theorem good_tab {ns : List ByteArray} (h : allV ns = true) (r : List UInt8) : good (tab ns ++ r) = good r := by
  unfold good
  rw [seq_tab ns r h, List.all_append]
  have : (ns.all fun n => n.size != 0) = true := by
    rw [List.all_eq_true]
    intro n hn
    have := vld_size (allV_iff.1 h n hn)
    rw [bne_iff_ne]
    omega
  rw [this, Bool.true_and]
theorem good_nil : good [] = true := by unfold good; rw [seq_nil]; rfl
theorem good_of_tab {ns : List ByteArray} (h : allV ns = true) : good (tab ns) = true ∧ seq (tab ns) = ns := by
  have h1 := good_tab h []
  have h2 := seq_tab ns [] h
  rw [List.append_nil] at h1 h2
  rw [seq_nil, List.append_nil] at h2
  exact ⟨by rw [h1, good_nil], h2⟩
theorem tab_of_good : ∀ {l : List UInt8}, good l = true → l = tab (seq l) ∧ allV (seq l) = true := by
  intro l
  generalize hk : l.length = k
  induction k using Nat.strongRecOn generalizing l with
  | _ k ih =>
    intro h
    by_cases h0 : l = []
    · subst h0; rw [seq_nil]; exact ⟨rfl, rfl⟩
    · by_cases hf : first l = []
      · unfold good at h
        rw [seq_bad h0 hf] at h
        simp [str_size] at h
      · obtain ⟨hv, hl⟩ := first_spec hf
        have hs := seq_good h0 hf
        have hg : good (l.drop ((first l).length + 2)) = true := by
          unfold good at h ⊢
          rw [hs, List.all_cons] at h
          simp at h ⊢
          exact h.2
        have hlen : 0 < l.length := List.length_pos_iff.2 h0
        obtain ⟨h1, h2⟩ := ih _ (by rw [List.length_drop]; omega) rfl hg
        rw [hs]
        refine ⟨?_, ?_⟩
        · rw [tab, bts_str, ← h1]; exact hl
        · rw [allV_iff] at h2 ⊢
          intro n hn
          rcases List.mem_cons.1 hn with rfl | hn
          · rw [bts_str]; exact hv
          · exact h2 n hn

/-- What Entries gives. -/
def entsO (l : List UInt8) : List ByteArray := if good l = true then seq l else []
def entsE (l : List UInt8) : Int := if good l = true then 0 else 7

/-- A table ends with a line feed. -/
theorem tab_last : ∀ {ns : List ByteArray}, ns ≠ [] → (tab ns).getLast? = some 10
  | [n], _ => by simp [tab]
  | n :: m :: r, _ => by
    have := tab_last (ns := m :: r) (by simp)
    rw [tab, List.getLast?_append, List.getLast?_append, this]
    rfl

/-- In a table the bytes behind line feeds are the offsets of names. -/
theorem offset_of : ∀ (ns : List ByteArray) (k : Nat), allV ns = true → k < (tab ns).length → (k = 0 ∨ (tab ns)[k - 1]? = some 10) → ∃ i, i < ns.length ∧ k = (tab (ns.take i)).length
  | [], k, _, h, _ => by simp [tab] at h
  | n :: r, k, hv, h, h1 => by
    obtain ⟨v1, v2⟩ := allV_append.1 (show allV ([n] ++ r) = true from hv)
    have vn := allV_iff.1 v1 n (by simp)
    rcases h1 with rfl | h1
    · exact ⟨0, by simp, by simp [tab]⟩
    · by_cases h0 : k = 0
      · subst h0; exact ⟨0, by simp, by simp [tab]⟩
      · rw [tab] at h1 h
        simp only [List.length_append, List.length_cons, List.length_nil] at h
        by_cases hk : k - 1 < (bts n).length
        · rw [List.getElem?_append_left hk, List.getElem?_eq_getElem hk] at h1
          injection h1 with h1
          exact absurd h1 (vld_ok vn (List.getElem_mem hk)).2.1
        · rw [List.getElem?_append_right (by omega)] at h1
          by_cases hk1 : k - 1 - (bts n).length = 0
          · rw [hk1] at h1; simp at h1
          · have hlt : (bts n).length + 2 ≤ k := by omega
            have hrest : k - ((bts n).length + 2) = 0 ∨ (tab r)[k - ((bts n).length + 2) - 1]? = some 10 := by
              by_cases hk2 : k = (bts n).length + 2
              · left; omega
              · right
                rw [List.getElem?_append_right (by simp; omega)] at h1
                rw [← h1]
                congr 1
                simp only [List.length_cons, List.length_nil]
                omega
            obtain ⟨i, hi, e⟩ := offset_of r (k - ((bts n).length + 2)) v2 (by omega) hrest
            refine ⟨i + 1, by simpa using hi, ?_⟩
            rw [List.take_succ_cons, tab]
            simp only [List.length_append, List.length_cons, List.length_nil]
            omega
theorem tab_split (ns : List ByteArray) (i : Nat) : tab ns = tab (ns.take i) ++ tab (ns.drop i) := by rw [← tab_append, List.take_append_drop]
theorem offset_at {ns : List ByteArray} {i : Nat} (hi : i < ns.length) : (tab (ns.take i)).length < (tab ns).length ∧ ((tab (ns.take i)).length = 0 ∨ (tab ns)[(tab (ns.take i)).length - 1]? = some 10) := by
  refine ⟨?_, ?_⟩
  · have h := congrArg List.length (tab_split ns i)
    rw [List.drop_eq_getElem_cons hi, tab] at h
    simp only [List.length_append, List.length_cons, List.length_nil] at h
    omega
  · by_cases h0 : ns.take i = []
    · left; rw [h0]; rfl
    · right
      have h1 := tab_last h0
      rw [List.getLast?_eq_getElem?] at h1
      have hpos : 0 < (tab (ns.take i)).length := by
        rcases Nat.eq_zero_or_pos (tab (ns.take i)).length with h | h
        · rw [List.eq_nil_of_length_eq_zero h] at h1; simp at h1
        · exact h
      rw [tab_split ns i, List.getElem?_append_left (by omega)]
      exact h1
theorem off_lt {ns : List ByteArray} {i j : Nat} (hj : j ≤ ns.length) (hij : i < j) : (tab (ns.take i)).length < (tab (ns.take j)).length := by
  have h := (offset_at (ns := ns.take j) (i := i) (by rw [List.length_take]; omega)).1
  rwa [List.take_take, Nat.min_eq_left (by omega)] at h
theorem off_inj {ns : List ByteArray} {i j : Nat} (hi : i ≤ ns.length) (hj : j ≤ ns.length) (h : (tab (ns.take i)).length = (tab (ns.take j)).length) : i = j := by
  rcases Nat.lt_trichotomy i j with h1 | h1 | h1
  · have := off_lt hj h1; omega
  · exact h1
  · have := off_lt hi h1; omega
theorem first_at {ns : List ByteArray} (hv : allV ns = true) {i : Nat} (hi : i < ns.length) : first ((tab ns).drop (tab (ns.take i)).length) = bts ns[i] := by
  have h : (tab ns).drop (tab (ns.take i)).length = tab (ns.drop i) := by
    conv => lhs; rw [tab_split ns i]
    exact List.drop_left
  rw [h, List.drop_eq_getElem_cons hi, tab]
  exact first_name (allV_iff.1 hv _ (List.getElem_mem hi))
end Go.Proofs.YtnkdcecpbjhdmaaDoor.Lnm
