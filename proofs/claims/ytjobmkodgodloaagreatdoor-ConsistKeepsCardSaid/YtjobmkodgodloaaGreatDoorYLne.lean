/-
  longname: Build.
-/
import Derived.Test.YtjobmkodgodloaaGreatDoorYMh
import Derived.Test.YtjobmkodgodloaaGreatDoorYMg
namespace Go.Proofs.YtjobmkodgodloaaGreatDoor.Lnm
open Go.RowKit Go.Proofs Go.Proofs.YtjobmkodgodloaaGreatDoor.Byt Go.Proofs.YtjobmkodgodloaaGreatDoor.Str3 Go.Proofs.YtjobmkodgodloaaGreatDoor.Dec

def bo (ns : List ByteArray) : List UInt8 := if allV ns = true then tab (longs ns) else []
def fo (ns : List ByteArray) : List ByteArray := if allV ns = true then flds [] ns else []
def be (ns : List ByteArray) : Int := if allV ns = true then 0 else 6
def Builds (ns : List ByteArray) (w : World) (e : Ending) (w' : World) : Prop :=
 ∃ v f, e = .returned (.tuple #[v, f, .int .i64 (be ns)]) ∧ Own w' w.heap.size v (bo ns).length (bo ns) ∧ Sls.Own w' w.heap.size f (fo ns).length (fo ns) ∧ Below w.heap.size w w'

theorem tab_len {ns : List ByteArray} (h : allV ns = true) : (tab ns).length ≤ ns.length * 257 := tab_len_le ns 255 fun n hn => (vld_size (allV_iff.1 h n hn)).2
theorem longs_len (ns : List ByteArray) : (longs ns).length ≤ ns.length := List.length_filter_le _ _
theorem tabl_len {ns : List ByteArray} {k : Nat} (h : allV ns = true) (hk : ns.length ≤ k) : (tab (longs ns)).length ≤ k * 257 :=
 Nat.le_trans (tab_len (longs_allV h)) (Nat.mul_le_mul_right 257 (Nat.le_trans (longs_len ns) hk))

theorem take_next {α : Type} {l : List α} {k : Nat} {x : α} (h : l[k]? = some x) : l.take (k + 1) = l.take k ++ [x] := by
 obtain ⟨h1, rfl⟩ := List.getElem?_eq_some_iff.1 h
 exact List.take_succ_eq_append_getElem h1
theorem not_all {ns : List ByteArray} {k : Nat} {x : ByteArray} (h : ns[k]? = some x) (hv : vld (bts x) = false) : allV ns = false := by
 cases h2 : allV ns
 · rfl
 · have := allV_iff.1 h2 x (List.mem_of_getElem? h)
   rw [hv] at this; cases this
theorem allV_next {a : List ByteArray} {x : ByteArray} (h : allV a = true) (hv : vld (bts x) = true) : allV (a ++ [x]) = true := allV_append.2 ⟨h, by simp [allV, hv]⟩
theorem longs_short {a : List ByteArray} {x : ByteArray} (h : sht (bts x) = true) : longs (a ++ [x]) = longs a := by rw [longs_append]; simp [longs, h]
theorem longs_long {a : List ByteArray} {x : ByteArray} (h : sht (bts x) = false) : longs (a ++ [x]) = longs a ++ [x] := by rw [longs_append]; simp [longs, h]
theorem fld_short {a : List ByteArray} {x : ByteArray} (h : sht (bts x) = true) : x ++ ⟨#[47]⟩ = fld a x := by
 unfold fld
 rw [if_pos h]
 have := str_append (bts x) [47]
 show x ++ ⟨#[47]⟩ = ⟨(bts x ++ [47]).toArray⟩
 rw [← this]
 show x ++ _ = str (bts x) ++ _
 rw [str_bts]
theorem fld_long {a : List ByteArray} {x : ByteArray} (h : sht (bts x) = false) : (⟨#[47]⟩ : ByteArray) ++ str (tx 10 (tab (longs a)).length) = fld a x := by
 unfold fld
 rw [if_neg (by rw [h]; simp)]
 exact str_append [47] _

end Go.Proofs.YtjobmkodgodloaaGreatDoor.Lnm
