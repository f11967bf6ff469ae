/-
  The mathematics of names and of the table of long names: no program in it. longname: Valid and Short, and the reference's. What the library's tables hold; strconv.Itoa, bytes.Cut; longname's firstName. longname: the offset in a field; whether a name begins there. longname: Resolve.
-/
import Derived.Test.YtpedngfmjhpojaaDoorZMa
import Derived.Lib.IndexMore
import Derived.Lib.IndexAny
import Derived.Lib.Strings
import Derived.Lib.ItoaNum
import Derived.Test.YtpedngfmjhpojaaDoorZMg
import Derived.Test.YtpedngfmjhpojaaDoorZShelf2
import Derived.Lib.LaidTab
import Derived.Lib.ItoaMem
namespace Go.Proofs.YtpedngfmjhpojaaDoor.Lnm
open Go.Proofs.YtpedngfmjhpojaaDoor.Dec

/-- The bytes of a string; the string of bytes. -/
def bts (s : ByteArray) : List UInt8 := s.data.toList
def str (l : List UInt8) : ByteArray := ⟨l.toArray⟩
theorem bts_str (l : List UInt8) : bts (str l) = l := by simp [bts, str]
theorem str_bts (s : ByteArray) : str (bts s) = s := by cases s; simp [bts, str]
theorem bts_inj {a b : ByteArray} (h : bts a = bts b) : a = b := by rw [← str_bts a, ← str_bts b, h]
theorem bts_length (s : ByteArray) : (bts s).length = s.size := Array.length_toList (xs := s.data)
theorem str_size (l : List UInt8) : (str l).size = l.length := by rw [← bts_length, bts_str]

/-- A byte that a name may have. -/
def okB (c : UInt8) : Bool := c != 47 && (c != 10 && c != 0)
/-- The bytes of a name. -/
def vld (l : List UInt8) : Bool := decide (1 ≤ l.length) && (decide (l.length ≤ 255) && l.all okB)
/-- The bytes of a short name. -/
def sht (l : List UInt8) : Bool := vld l && (decide (l.length ≤ 15) && !Lib.hasSuffix l [32])
theorem vld_iff {l : List UInt8} : vld l = true ↔ 1 ≤ l.length ∧ l.length ≤ 255 ∧ ∀ c ∈ l, okB c = true := by simp [vld]
theorem okB_iff {c : UInt8} : okB c = true ↔ c ≠ 47 ∧ c ≠ 10 ∧ c ≠ 0 := by simp [okB]
theorem vld_ok {l : List UInt8} (h : vld l = true) {c : UInt8} (hc : c ∈ l) : c ≠ 47 ∧ c ≠ 10 ∧ c ≠ 0 := okB_iff.1 ((vld_iff.1 h).2.2 c hc)

/-- The table of names. -/
def tab : List ByteArray → List UInt8
  | [] => []
  | n :: r => bts n ++ ([47, 10] ++ tab r)
theorem tab_append : ∀ a b : List ByteArray, tab (a ++ b) = tab a ++ tab b
  | [], b => rfl
  | n :: r, b => by rw [List.cons_append, tab, tab_append r b, tab]; simp
theorem tab_snoc (a : List ByteArray) (n : ByteArray) : tab (a ++ [n]) = tab a ++ (bts n ++ [47, 10]) := by rw [tab_append]; simp [tab]

/-- All are names. -/
def allV (ns : List ByteArray) : Bool := ns.all fun n => vld (bts n)
theorem allV_iff {ns : List ByteArray} : allV ns = true ↔ ∀ n ∈ ns, vld (bts n) = true := by simp [allV]
theorem allV_append {a b : List ByteArray} : allV (a ++ b) = true ↔ allV a = true ∧ allV b = true := by
  rw [allV_iff, allV_iff, allV_iff]
  constructor
  · exact fun h => ⟨fun n hn => h n (by simp [hn]), fun n hn => h n (by simp [hn])⟩
  · rintro ⟨h1, h2⟩ n hn
    rcases List.mem_append.1 hn with h | h
    · exact h1 n h
    · exact h2 n h
def longs (ns : List ByteArray) : List ByteArray := ns.filter fun n => !sht (bts n)
theorem longs_append (a b : List ByteArray) : longs (a ++ b) = longs a ++ longs b := by simp [longs]
theorem longs_allV {ns : List ByteArray} (h : allV ns = true) : allV (longs ns) = true := by
  rw [allV_iff] at h ⊢
  exact fun n hn => h n (List.mem_filter.1 hn).1

/-- The field of a name behind others. -/
def fld (pre : List ByteArray) (n : ByteArray) : ByteArray := if sht (bts n) = true then str (bts n ++ [47]) else str ([47] ++ tx 10 (tab (longs pre)).length)
def flds : List ByteArray → List ByteArray → List ByteArray
  | _, [] => []
  | pre, n :: r => fld pre n :: flds (pre ++ [n]) r
theorem flds_append : ∀ (pre a b : List ByteArray), flds pre (a ++ b) = flds pre a ++ flds (pre ++ a) b
  | pre, [], b => by simp [flds]
  | pre, n :: r, b => by rw [List.cons_append, flds, flds_append (pre ++ [n]) r b, flds]; simp
theorem flds_length : ∀ (pre a : List ByteArray), (flds pre a).length = a.length
  | _, [] => rfl
  | pre, n :: r => by rw [flds, List.length_cons, List.length_cons, flds_length]
theorem flds_snoc (a : List ByteArray) (n : ByteArray) : flds [] (a ++ [n]) = flds [] a ++ [fld a n] := by rw [flds_append]; simp [flds]
theorem flds_at : ∀ (pre a : List ByteArray) (i : Nat) (h : i < a.length), (flds pre a)[i]? = some (fld (pre ++ a.take i) a[i])
  | pre, n :: r, 0, h => by simp [flds]
  | pre, n :: r, i + 1, h => by
    rw [flds, List.getElem?_cons_succ, flds_at (pre ++ [n]) r i (by simpa using h)]
    simp

/-- How long the table of names is. -/
theorem tab_len_le : ∀ (ns : List ByteArray) (k : Nat), (∀ n ∈ ns, n.size ≤ k) → (tab ns).length ≤ ns.length * (k + 2)
  | [], k, _ => by simp [tab]
  | n :: r, k, h => by
    have h1 := tab_len_le r k fun x hx => h x (by simp [hx])
    have h2 := h n (by simp)
    rw [tab, List.length_append, List.length_append, bts_length, show (n :: r).length * (k + 2) = r.length * (k + 2) + (k + 2) from Nat.succ_mul _ _]
    simp only [List.length_cons, List.length_nil]
    omega
theorem vld_size {n : ByteArray} (h : vld (bts n) = true) : 1 ≤ n.size ∧ n.size ≤ 255 := by
  have := vld_iff.1 h
  rw [bts_length] at this
  exact ⟨this.1, this.2.1⟩

/-- The name at the front, if there is one. -/
def first (l : List UInt8) : List UInt8 := if 0 ≤ Lib.index l [47, 10] ∧ vld (l.take (Lib.index l [47, 10]).toNat) = true then l.take (Lib.index l [47, 10]).toNat else []

/-- The names of a table, up to the first entry that is none: an empty one stands for it. -/
def seq (l : List UInt8) : List ByteArray :=
  if h0 : l = [] then [] else if first l = [] then [str []] else str (first l) :: seq (l.drop ((first l).length + 2))
termination_by l.length
decreasing_by
  have : 0 < l.length := List.length_pos_iff.2 h0
  rw [List.length_drop]
  omega
/-- The table is one. -/
def good (l : List UInt8) : Bool := (seq l).all fun n => n.size != 0
end Go.Proofs.YtpedngfmjhpojaaDoor.Lnm

namespace Go.Proofs.YtpedngfmjhpojaaDoor.Lnm
open Go.RowKit Go.Proofs Go.Proofs.YtpedngfmjhpojaaDoor.Byt Go.Proofs.YtpedngfmjhpojaaDoor.Str3 Go.Proofs.YtpedngfmjhpojaaDoor.Dec

theorem okB_contains (c : UInt8) : ([47, 10, 0] : List UInt8).contains c = !okB c := by
  unfold okB
  by_cases h1 : c = 47
  · subst h1; rfl
  · by_cases h2 : c = 10
    · subst h2; rfl
    · by_cases h3 : c = 0
      · subst h3; rfl
      · simp [h1, h2, h3]
theorem bad_all : ∀ l : List UInt8, (!bad l) = l.all okB
  | [] => rfl
  | b :: l => by
    have ih := bad_all l
    unfold bad Lib.containsAny at ih ⊢
    unfold Lib.indexAny
    rw [okB_contains, List.all_cons]
    cases h : okB b
    · simp
    · rw [Bool.not_true, Bool.true_and, ← ih]
      have hge := Lib.indexAny_ge [47, 10, 0] l
      simp only [Bool.false_eq_true, if_false]
      by_cases h2 : Lib.indexAny l [47, 10, 0] = -1
      · rw [h2]; rfl
      · have h3 : (Lib.indexAny l [47, 10, 0] == -1) = false := by simpa using h2
        rw [h3]
        simp only [Bool.false_eq_true, if_false]
        congr 1
        rw [decide_eq_decide]
        omega

theorem valid_any (s : ByteArray) (w : World) (hs : s.size ≤ 140737488355328) :
    Calls Tryd.prog 52 #[.string s] w fun e w' => e = .returned (.bool (vld (bts s))) ∧ Below w.heap.size w w' := by
  by_cases h1 : 1 ≤ s.size
  · by_cases h2 : s.size ≤ 255
    · have Hr : Hid (vld (bts s) = !bad (bts s)) := hid (by rw [bad_all]; unfold vld; rw [bts_length]; simp [h1, h2])
      have Hc := hid (containsAny_any s w (by omega))
      go_enter Tryd.func52, Tryd.ntmps52
      go_wp2_with (go_at_call 63; refine Hc.out.mono ?_; rintro e w' ⟨rfl, hw⟩)
      go_ret
      exact ⟨ret_bool (by rw [Hr.out]; rfl), hw⟩
    · have Hr' : Hid (vld (bts s) = false) := hid (by unfold vld; rw [bts_length]; simp [h2])
      go_enter Tryd.func52, Tryd.ntmps52
      go_wp2_with fail
      go_ret
      exact ⟨ret_bool Hr'.out.symm, Below.refl _ _⟩
  · have Hr' : Hid (vld (bts s) = false) := hid (by unfold vld; rw [bts_length]; simp [h1])
    go_enter Tryd.func52, Tryd.ntmps52
    go_wp2_with fail
    go_ret
    exact ⟨ret_bool Hr'.out.symm, Below.refl _ _⟩

theorem short_any (s : ByteArray) (w : World) (hs : s.size ≤ 140737488355328) :
    Calls Tryd.prog 64 #[.string s] w fun e w' => e = .returned (.bool (sht (bts s))) ∧ Below w.heap.size w w' := by
  have Hc := hid (valid_any s w hs)
  cases hv : vld (bts s)
  · have Hr : Hid (sht (bts s) = false) := hid (by unfold sht; rw [hv]; rfl)
    go_enter Tryd.func64, Tryd.ntmps64
    go_wp2_with (go_at_call 52; refine Hc.out.mono ?_; rintro e w' ⟨rfl, hw⟩; rw [hv])
    go_ret
    exact ⟨ret_bool Hr.out.symm, hw⟩
  · by_cases h15 : s.size ≤ 15
    · have Hr : Hid (sht (bts s) = !Lib.hasSuffix s.data.toList [32]) := hid (by unfold sht; rw [hv, bts_length]; simp [h15]; rfl)
      go_enter Tryd.func64, Tryd.ntmps64
      go_wp2_with (first | (go_at_call 52; refine Hc.out.mono ?_; rintro e w' ⟨rfl, hw⟩; rw [hv]) | (go_at_call 69; refine (Tryd.strings_HasSuffix _ _ _ (by omega)).mono ?_; rintro e w'' ⟨rfl, hw2⟩; rw [hw2]))
      go_ret
      exact ⟨ret_bool (by rw [Hr.out]), hw⟩
    · have Hr : Hid (sht (bts s) = false) := hid (by unfold sht; rw [bts_length]; simp [h15])
      go_enter Tryd.func64, Tryd.ntmps64
      go_wp2_with (go_at_call 52; refine Hc.out.mono ?_; rintro e w' ⟨rfl, hw⟩; rw [hv])
      go_ret
      exact ⟨ret_bool Hr.out.symm, hw⟩

/-- The first i bytes may be in a name. -/
def OkTo (l : List UInt8) (i : Nat) : Prop := ∀ c ∈ l.take i, okB c = true
theorem OkTo.succ {l : List UInt8} {i : Nat} {c : UInt8} (h : OkTo l i) (h2 : l[i]? = some c) (h3 : okB c = true) : OkTo l (i + 1) := by
  obtain ⟨hi, rfl⟩ := List.getElem?_eq_some_iff.1 h2
  unfold OkTo at h ⊢
  rw [List.take_succ_eq_append_getElem hi]
  intro c hc
  rcases List.mem_append.1 hc with hc | hc
  · exact h c hc
  · rw [List.mem_singleton] at hc; rw [hc]; exact h3

end Go.Proofs.YtpedngfmjhpojaaDoor.Lnm

namespace Go.Proofs.YtpedngfmjhpojaaDoor.Lnm
open Go.RowKit Go.Proofs Go.Proofs.YtpedngfmjhpojaaDoor.Byt Go.Proofs.YtpedngfmjhpojaaDoor.Str3 Go.Proofs.YtpedngfmjhpojaaDoor.Dec

/-- The library's variable that is read is there. -/
def Gnd (w : World) : Prop := ∃ m, w.cell? ⟨0, 0, none⟩ = some (.int .i64 m)
theorem Gnd.below {w w' : World} {K : Nat} (h : Gnd w) (hb : Below K w w') (hK : w.heap.size ≤ K) : Gnd w' := by
  obtain ⟨m, hm⟩ := h
  refine ⟨m, ?_⟩
  rw [hb.cell (p := ⟨0, 0, none⟩) (Nat.lt_of_lt_of_le (World.block_lt_of_cell? _ _ hm) hK)]
  exact hm
theorem Gnd.on {w w' : World} (h : Gnd w) (hb : Below w.heap.size w w') : Gnd w' := h.below hb (Nat.le_refl _)
theorem Gnd.alloc {w : World} (h : Gnd w) (o : Obj) : Gnd (w.alloc o) := h.on ((Below.refl _ _).alloc (Nat.le_refl _) _)
theorem Gnd.drewN {w : World} (h : Gnd w) (m : Nat) : Gnd (w.drewN m) := h.on (below_drewN _ _)

theorem named_pow : Tryd.prog.globalNamed "internal/strconv.uint64pow10" = some 1 := by kernel_rfl
/-- The table of powers of ten, too, holds what it shall (for strconv.Itoa). -/
def GndP (w : World) : Prop := Gnd w ∧ Lib.TabIs Tryd.prog w "internal/strconv.uint64pow10" .u64 Lib.pow10Tab ∧ 1 = 1
theorem GndP.below {w w' : World} {K : Nat} (h : GndP w) (hb : Below K w w') (hK : w.heap.size ≤ K) : GndP w' := by
  obtain ⟨h0, ht, _⟩ := h
  refine ⟨h0.below hb hK, ?_, rfl⟩
  unfold Lib.TabIs World.var? at ht ⊢
  rw [named_pow] at ht ⊢
  simp only [Option.bind_some] at ht ⊢
  have hlt : 1 < w.heap.size := by
    by_cases h : 1 < w.heap.size
    · exact h
    · rw [Array.getElem?_eq_none (by omega)] at ht
      cases ht
  rw [hb.block _ (Nat.lt_of_lt_of_le hlt hK)]
  exact ht
theorem GndP.on {w w' : World} (h : GndP w) (hb : Below w.heap.size w w') : GndP w' := h.below hb (Nat.le_refl _)
theorem GndP.alloc {w : World} (h : GndP w) (o : Obj) : GndP (w.alloc o) := h.on ((Below.refl _ _).alloc (Nat.le_refl _) _)
theorem GndP.drewN {w : World} (h : GndP w) (m : Nat) : GndP (w.drewN m) := h.on (below_drewN _ _)
theorem dec_tx : ∀ n : Nat, Lib.decDigits n = tx 10 n := by
  refine by_digits (B := 10) (by omega) (fun n h => ?_) (fun n h ih => ?_)
  · rw [Lib.decDigits_one h, tx_small h]
  · rw [Lib.decDigits, dif_neg (by omega), ih, tx_big (by omega) h]

theorem below_more (w : World) (k : Nat) (os : Array Obj) : Below w.heap.size w (Sort.grow (w.drewN k) os) :=
  ⟨rfl, rfl, rfl, by simp [Sort.grow], fun i hi => by
    show ((w.drewN k).heap ++ os)[i]? = _
    rw [Array.getElem?_append_left (by show i < w.heap.size; omega)]
    rfl⟩
theorem itoa_any (n : Nat) (w : World) (hg : GndP w) (hn : n < 9223372036854775808) :
    Calls Tryd.prog 65 #[.int .i64 (n : Int)] w fun e w' => e = .returned (.string (str (tx 10 n))) ∧ Below w.heap.size w w' := by
  refine (Tryd.strconv_Itoa (n : Int) (by omega) (by omega) w hg.2.1).mono fun e w' ⟨he, k, os, hw⟩ => ⟨?_, ?_⟩
  · rw [he, Lib.itoa_nonneg, dec_tx]; rfl
  · rw [hw]; exact below_more w k os

end Go.Proofs.YtpedngfmjhpojaaDoor.Lnm

namespace Go.Proofs.YtpedngfmjhpojaaDoor.Lnm
open Go.RowKit Go.Proofs Go.Proofs.YtpedngfmjhpojaaDoor.Byt Go.Proofs.YtpedngfmjhpojaaDoor.Str3 Go.Proofs.YtpedngfmjhpojaaDoor.Dec

/-- Whether an entry begins at k. -/
def beg (l : List UInt8) (k : Nat) : Bool := decide (k < l.length) && (k == 0 || l[k - 1]? == some 10)

/-- The offset in a field. -/
def poff : List UInt8 → Option Nat
  | 47 :: d => if d.length ≤ 15 then (match parse 10 d with | some n => if nd 10 n = d.length then some n else none | none => none) else none
  | _ => none
end Go.Proofs.YtpedngfmjhpojaaDoor.Lnm

namespace Go.Proofs.YtpedngfmjhpojaaDoor.Lnm
open Go.RowKit Go.Proofs Go.Proofs.YtpedngfmjhpojaaDoor.Byt Go.Proofs.YtpedngfmjhpojaaDoor.Str3 Go.Proofs.YtpedngfmjhpojaaDoor.Dec

/-- The short name in a field. -/
def shortOf (f : List UInt8) : Option ByteArray := if Lib.hasSuffix f [47] = true ∧ sht (Lib.trimSuffix f [47]) = true then some (str (Lib.trimSuffix f [47])) else none
/-- The name at an offset. -/
def longAt (f l : List UInt8) : Option ByteArray := match poff f with | some k => if beg l k = true ∧ first (l.drop k) ≠ [] then some (str (first (l.drop k))) else none | none => none
/-- What Resolve gives. -/
def resv (f l : List UInt8) : Option ByteArray := match shortOf f with | some n => some n | none => longAt f l
def rs (o : Option ByteArray) : ByteArray := match o with | some s => s | none => ⟨#[]⟩
def re (o : Option ByteArray) : Int := match o with | some _ => 0 | none => 6

end Go.Proofs.YtpedngfmjhpojaaDoor.Lnm
