/-
  What the library's tables hold; strconv.Itoa, bytes.Cut; longname's firstName.
-/
import Derived.Test.YtnkdcecpbjhdmaaDoorLna
import Derived.Lib.LaidTab
import Derived.Lib.ItoaMem
namespace Go.Proofs.YtnkdcecpbjhdmaaDoor.Lnm
open Go.RowKit Go.Proofs Go.Proofs.YtnkdcecpbjhdmaaDoor.Byt Go.Proofs.YtnkdcecpbjhdmaaDoor.Str3 Go.Proofs.YtnkdcecpbjhdmaaDoor.Dec

/-- The library's variables that are read hold what they shall. -/
def Gnd (w : World) : Prop := (∃ m, w.cell? ⟨0, 0, none⟩ = some (.int .i64 m)) ∧ Lib.TabIs Tryd.prog w "internal/strconv.uint64pow10" .u64 Lib.pow10Tab
theorem named_pow : Tryd.prog.globalNamed "internal/strconv.uint64pow10" = some 1 := by kernel_rfl

theorem Gnd.below {w w' : World} {K : Nat} (h : Gnd w) (hb : Below K w w') (hK : w.heap.size ≤ K) : Gnd w' := by
  obtain ⟨⟨m, hm⟩, ht⟩ := h
  refine ⟨⟨m, ?_⟩, ?_⟩
  · rw [hb.cell (p := ⟨0, 0, none⟩) (Nat.lt_of_lt_of_le (World.block_lt_of_cell? _ _ hm) hK)]
    exact hm
  · unfold Lib.TabIs World.var? at ht ⊢
    rw [named_pow] at ht ⊢
    simp only [Option.bind_some] at ht ⊢
    have hlt : 1 < w.heap.size := by
      by_cases h : 1 < w.heap.size
      · exact h
      · rw [Array.getElem?_eq_none (by omega)] at ht
        cases ht
    rw [hb.block _ (Nat.lt_of_lt_of_le hlt hK)]
    exact ht
theorem Gnd.on {w w' : World} (h : Gnd w) (hb : Below w.heap.size w w') : Gnd w' := h.below hb (Nat.le_refl _)
theorem Gnd.alloc {w : World} (h : Gnd w) (o : Obj) : Gnd (w.alloc o) := h.on ((Below.refl _ _).alloc (Nat.le_refl _) _)
theorem Gnd.drewN {w : World} (h : Gnd w) (m : Nat) : Gnd (w.drewN m) := h.on (below_drewN _ _)

theorem dec_tx : ∀ n : Nat, Lib.decDigits n = tx 10 n := by
  refine by_digits (B := 10) (by omega) (fun n h => ?_) (fun n h ih => ?_)
  · rw [Lib.decDigits_one h, tx_small h]
  · rw [Lib.decDigits, dif_neg (by omega), ih, tx_big (by omega) h]

theorem below_more (w : World) (k : Nat) (os : Array Obj) : Below w.heap.size w (Sort.grow (w.drewN k) os) :=
  ⟨rfl, rfl, rfl, by simp [Sort.grow], fun i hi => by
    show ((w.drewN k).heap ++ os)[i]? = _
    rw [Array.getElem?_append_left (by show i < w.heap.size; omega)]
    rfl⟩
theorem itoa_any (n : Nat) (w : World) (hg : Gnd w) (hn : n < 9223372036854775808) :
    Calls Tryd.prog 26 #[.int .i64 (n : Int)] w fun e w' => e = .returned (.string (str (tx 10 n))) ∧ Below w.heap.size w w' := by
  refine (Tryd.strconv_Itoa (n : Int) (by omega) (by omega) w hg.2).mono fun e w' ⟨he, k, os, hw⟩ => ⟨?_, ?_⟩
  · rw [he, Lib.itoa_nonneg, dec_tx]; rfl
  · rw [hw]; exact below_more w k os

/-- Bytes as numbers. -/
def nums (l : List UInt8) : List Int := l.map fun c => (c.toNat : Int)
theorem nums_length (l : List UInt8) : (nums l).length = l.length := by simp [nums]
theorem nums_bytes (l : List UInt8) : Lib.bytesOf (nums l) = l := by
  unfold Lib.bytesOf nums
  rw [List.map_map]
  conv => rhs; rw [← List.map_id l]
  apply List.map_congr_left
  intro c _
  simp
theorem nums_byte (l : List UInt8) : ∀ x ∈ nums l, 0 ≤ x ∧ x < 256 := by
  intro x hx
  unfold nums at hx
  obtain ⟨c, _, rfl⟩ := List.mem_map.1 hx
  have := c.toNat_lt
  omega
theorem nums_at {l : List UInt8} {i : Nat} (h : i < l.length) : (nums l).getD i 0 = (l[i].toNat : Int) := by
  unfold nums
  simp [List.getD_eq_getElem?_getD, List.getElem?_eq_getElem h]
theorem Rd.bytesIn {w : World} {K n : Nat} {A : Option Addr} {l : List UInt8} (h : Rd w K A n l) : Lib.BytesIn w A n (nums l) := by
  intro hn
  obtain ⟨b, o, e, _, _⟩ := h.2 0 (by have := h.1; omega)
  refine ⟨b, o, e, fun i hi => ?_⟩
  have hi' : i < l.length := by have := h.1; omega
  obtain ⟨b', o', e', _, hc⟩ := h.2 i hi'
  rw [e] at e'
  injection e' with e'
  injection e' with e1 e2
  subst e1
  subst e2
  rw [nums_at hi']
  exact hc

/-- What Cut hands back behind the text: it is not looked at. -/
theorem cut_any (K : Nat) (A : Option Addr) (n c : Nat) (l : List UInt8) (A2 : Option Addr) (c2 : Nat) (w : World) (hg : Gnd w) (hr : Rd w K A n l) (h2 : Rd w w.heap.size A2 2 [47, 10]) (hpos : 0 < n) (hc : n ≤ c) (hn : n < 4294967281) :
    Calls Tryd.prog 44 #[.slice A n c, .slice A2 2 c2] w fun e w' => ∃ q, w' = w.drewN q ∧
      e = .returned (if 0 ≤ Lib.index l [47, 10] then .tuple #[.slice A (Lib.index l [47, 10]).toNat c, Lib.fromV A n c ((Lib.index l [47, 10]).toNat + 2), .bool true] else .tuple #[.slice A n c, .slice none 0 0, .bool false]) := by
  obtain ⟨m, hm⟩ := hg.1
  obtain ⟨b, o, e, _⟩ := hr.2 0 (by have := hr.1; omega)
  refine (Tryd.bytes_Cut_all A A2 n c 2 c2 (nums l) (nums [47, 10]) m w (by rw [nums_length]; exact hr.1) rfl (nums_byte _) (nums_byte _) (Rd.bytesIn hr) (Rd.bytesIn h2) (by rw [e]; intro h; cases h) hc hn (by decide) hm).mono fun e w' ⟨he, q, hw⟩ => ⟨q, hw, ?_⟩
  rw [he, nums_bytes, nums_bytes]
  rfl

theorem fromV_slice (p : Option Addr) (n c j : Nat) : ∃ B m k, Lib.fromV p n c j = .slice B m k := ⟨_, _, _, rfl⟩

set_option maxRecDepth 100000 in
set_option maxHeartbeats 1000000 in
theorem first_any (K : Nat) (A : Option Addr) (n c : Nat) (l : List UInt8) (w : World) (hg : Gnd w) (hr : Rd w K A n l) (hK : K ≤ w.heap.size) (hpos : 0 < n) (hc : n ≤ c) (hn : n < 4294967281) :
    Calls Tryd.prog 34 #[.slice A n c] w fun e w' => e = .returned (.string (str (first l))) ∧ Below w.heap.size w w' := by
  have hbl : Below w.heap.size w (w.alloc (.cells #[.int .u8 47, .int .u8 10] 5 (2, 3))) := (Below.refl _ w).alloc (Nat.le_refl _) _
  have hsz : (w.alloc (.cells #[.int .u8 47, .int .u8 10] 5 (2, 3))).heap.size = w.heap.size + 1 := by simp
  have hr1 := hr.below (hbl.mono hK)
  have h2 : Rd (w.alloc (.cells #[.int .u8 47, .int .u8 10] 5 (2, 3))) (w.heap.size + 1) (some ⟨w.heap.size, 0, none⟩) 2 [47, 10] := Rd.lit w [47, 10] _ rfl 2 rfl (2, 3)
  rw [← hsz] at h2
  have Hcut := hid (cut_any K A n c l (some ⟨w.heap.size, 0, none⟩) 2 _ (hg.alloc _) hr1 h2 hpos hc hn)
  have Hbl := hid hbl
  clear h2 hsz hbl
  have kc := Lib.run_convert_bytes_const (P := Tryd.prog) w 23 5 #[.int .u8 47, .int .u8 10] 2 2 Tryd.underlying23 Tryd.underlying5
  rw [show (#[.int .u8 47, .int .u8 10] : Array Value).size = 2 from rfl] at kc
  by_cases hi : 0 ≤ Lib.index l [47, 10]
  · obtain ⟨i, hi2⟩ := Int.eq_ofNat_of_zero_le hi
    have hroom := Lib.index_room l [47, 10] hi
    have hl := hr.1
    have hin : i ≤ n := by rw [hi2] at hroom; simp only [List.length_cons, List.length_nil] at hroom; omega
    have Hf : Hid (first l = if vld (l.take i) = true then l.take i else []) := hid (by unfold first; rw [hi2]; simp)
    rw [if_pos hi, hi2, Int.toNat_natCast] at Hcut
    have hstr : ∀ q, (convert 23 9 (.slice A i c)).run Tryd.prog ((w.alloc (.cells #[.int .u8 47, .int .u8 10] 5 (2, 3))).drewN q) = .ok (.string ⟨(l.take i).toArray⟩) ((w.alloc (.cells #[.int .u8 47, .int .u8 10] 5 (2, 3))).drewN q) :=
      fun q => run_str _ K A i c (l.take i) ((hr1.pre hin).drewN q)
    have hssz : (ByteArray.mk (l.take i).toArray).size ≤ 140737488355328 := by
      show (l.take i).toArray.size ≤ _
      simp; omega
    obtain ⟨B, m, k, hfv⟩ := fromV_slice A n c (i + 2)
    rw [hfv] at Hcut
    have Hin := hid hin
    clear hfv hi2 hi hroom hin hr1 hl
    have Hstr := hid hstr
    clear hstr
    have hvv : bts ⟨(l.take i).toArray⟩ = l.take i := bts_str _
    cases hv : vld (l.take i)
    · have Hf' : Hid (first l = []) := hid (by rw [Hf.out, if_neg (by rw [hv]; simp)])
      clear Hf
      go_enter Tryd.func34, Tryd.ntmps34
      go_wp2_with fail
      refine Hcut.out.mono ?_
      rintro e w1 ⟨q, rfl, rfl⟩
      have hs1 := Hstr.out q
      have Hb := hid (Hbl.out.trans ((below_drewN (K := w.heap.size) (w.alloc (.cells #[.int .u8 47, .int .u8 10] 5 (2, 3))) q)))
      go_wp2_with fail
      refine (valid_any _ _ hssz).mono ?_
      rintro e w2 ⟨rfl, hb2⟩
      rw [hvv, hv]
      have Hb2 := hid (Hb.out.trans (hb2.mono Hb.out.size))
      clear hb2 hs1
      go_wp2_with fail
      go_ret
      exact ⟨ret_str (by rw [Hf'.out]; rfl), Hb2.out⟩
    · have Hf' : Hid (first l = l.take i) := hid (by rw [Hf.out, if_pos hv])
      clear Hf
      go_enter Tryd.func34, Tryd.ntmps34
      go_wp2_with fail
      refine Hcut.out.mono ?_
      rintro e w1 ⟨q, rfl, rfl⟩
      have hs1 := Hstr.out q
      have Hb := hid (Hbl.out.trans ((below_drewN (K := w.heap.size) (w.alloc (.cells #[.int .u8 47, .int .u8 10] 5 (2, 3))) q)))
      go_wp2_with fail
      refine (valid_any _ _ hssz).mono ?_
      rintro e w2 ⟨rfl, hb2⟩
      rw [hvv, hv]
      have hr2 := (hr.more hK).below (Hb.out.trans (hb2.mono Hb.out.size))
      have hs2 := run_str w2 _ A i c (l.take i) (hr2.pre Hin.out)
      have Hb2 := hid (Hb.out.trans (hb2.mono Hb.out.size))
      clear hb2 hs1 hr2
      go_wp2_with fail
      go_ret
      exact ⟨ret_str (by rw [Hf'.out]; rfl), Hb2.out⟩
  · have Hf : Hid (first l = []) := hid (by unfold first; rw [if_neg (fun h => hi h.1)])
    rw [if_neg hi] at Hcut
    clear hi hr1
    go_enter Tryd.func34, Tryd.ntmps34
    go_wp2_with fail
    refine Hcut.out.mono ?_
    rintro e w1 ⟨q, rfl, rfl⟩
    have Hb := hid (Hbl.out.trans ((below_drewN (K := w.heap.size) (w.alloc (.cells #[.int .u8 47, .int .u8 10] 5 (2, 3))) q)))
    go_wp2_with fail
    go_ret
    exact ⟨ret_str (by rw [Hf.out]; rfl), Hb.out⟩
end Go.Proofs.YtnkdcecpbjhdmaaDoor.Lnm
