/-
  arwrite: the archive that is written, and why its parts fit (mathematics).
  Append onto byte slices with what stays: all blocks but the slice's own; what a writer's step leaves as it is.
-/
import Derived.Test.YtpedngfmjhpojaaGreatDoorZWc
import Derived.Test.YtpedngfmjhpojaaGreatDoorZOa
import Derived.Test.YtpedngfmjhpojaaGreatDoorZP4z
namespace Go.Proofs.YtpedngfmjhpojaaGreatDoor.Arw
open Go.RowKit Go.Proofs Go.Proofs.YtpedngfmjhpojaaGreatDoor.Byt Go.Proofs.YtpedngfmjhpojaaGreatDoor.Dec Go.Proofs.YtpedngfmjhpojaaGreatDoor.Lnm Go.Proofs.YtpedngfmjhpojaaGreatDoor.Hdr Go.Proofs.YtpedngfmjhpojaaGreatDoor.Arp

/-- The error of a part's header, and the part's bytes; the name is the name field. -/
def herr (x : Mem) : Int := eerr x.name (num x.time x.uid x.gid x.mode (x.len : Int))
def ptl (x : Mem) : List UInt8 := mkp x.name (num x.time x.uid x.gid x.mode (x.len : Int)) x.data
def setN (f : ByteArray) (x : Mem) : Mem := { x with name := f }
/-- The map's part and the table's. -/
def mpt (A : Option Addr) (n c : Nat) (d : List UInt8) : Mem := ⟨⟨#[47]⟩, 0, 0, 0, 0, A, n, c, d⟩
def tpt (A : Option Addr) (n c : Nat) (d : List UInt8) : Mem := ⟨⟨#[47, 47]⟩, 0, 0, 0, 0, A, n, c, d⟩
def bodyP (xs : List Mem) : List Mem := List.zipWith setN (fo (nms xs)) xs
def mapP (hm : Bool) (A : Option Addr) (n c : Nat) (d : List UInt8) : List Mem := if hm = true then [mpt A n c d] else []
def tabP (A : Option Addr) (n c : Nat) (d : List UInt8) : List Mem := if n = 0 then [] else [tpt A n c d]
def flat (ps : List Mem) : List UInt8 := (ps.map ptl).flatten
/-- The archive. -/
def arch (hm : Bool) (md : List UInt8) (xs : List Mem) : List UInt8 :=
  Arp.magic ++ (flat (mapP hm none md.length 0 md) ++ (flat (tabP none (bo (nms xs)).length 0 (bo (nms xs))) ++ flat (bodyP xs)))
theorem flat_append (a b : List Mem) : flat (a ++ b) = flat a ++ flat b := by simp [flat]
theorem flat_nil : flat [] = [] := rfl
theorem flat_one (x : Mem) : flat [x] = ptl x := by simp [flat]
theorem flat_succ {ps : List Mem} {k : Nat} (hk : k < ps.length) : flat (ps.take (k + 1)) = flat (ps.take k) ++ ptl ps[k] := by
  rw [List.take_succ_eq_append_getElem hk, flat_append, flat_one]
theorem flat_mapP (hm : Bool) (A : Option Addr) (n c : Nat) (d : List UInt8) : flat (mapP hm A n c d) = flat (mapP hm none n 0 d) := by
  unfold mapP; cases hm <;> rfl
theorem flat_tabP (A : Option Addr) (n c : Nat) (d : List UInt8) : flat (tabP A n c d) = flat (tabP none n 0 d) := by
  unfold tabP; split <;> rfl

theorem fitL_zero : ∀ (k : Nat) (xs : List Mem), (fitL k xs).2 = 0 ↔ ∀ x ∈ xs, fitsM x = 0
  | _, [] => by simp [fitL]
  | k, x :: r => by
    unfold fitL
    by_cases h : fitsM x = 0
    · rw [if_pos h, fitL_zero (k + 1) r]; simp [h]
    · rw [if_neg h]; simp [h]
theorem fitsM_zero {x : Mem} (h : fitsM x = 0) : vld (bts x.name) = true ∧ allOk ⟨#[47, 48]⟩ (num x.time x.uid x.gid x.mode (x.len : Int)) 5 = true := by
  unfold fitsM at h
  split at h
  · rename_i hv
    refine ⟨hv, ?_⟩
    unfold eerr at h
    have h2 : nameOk ⟨#[47, 48]⟩ = true := by decide +kernel
    rw [if_pos h2] at h
    split at h
    · assumption
    · cases h
  · cases h
theorem allOk_tab {s s' : ByteArray} {f : Nat → Int} (h : isTab s = isTab s') : ∀ k, allOk s f k = allOk s' f k
  | 0 => rfl
  | k + 1 => by unfold allOk; rw [allOk_tab h k, h]

theorem no_bad {l : List UInt8} (h : ∀ c ∈ l, c ≠ 10 ∧ c ≠ 0) : Str.bad l = false := by
  unfold Str.bad Lib.containsAny
  rw [Lib.indexAny_none (fun j b _ hb => by
    have := h b (List.mem_of_getElem? hb)
    simp [this.1, this.2])]
  rfl

theorem fld_ok {pre : List ByteArray} {n : ByteArray} (hv : vld (bts n) = true) (hl : (tab (longs pre)).length ≤ 100000) : nameOk (fld pre n) = true ∧ isTab (fld pre n) = false := by
  unfold fld
  by_cases hs : sht (bts n) = true
  · rw [if_pos hs]
    have hs' := hs
    unfold sht at hs'
    simp only [Bool.and_eq_true, decide_eq_true_eq, Bool.not_eq_true', hv, true_and] at hs'
    obtain ⟨h15, _⟩ := hs'
    have h1 := (vld_iff.1 hv).1
    refine ⟨nameOk_iff.2 ⟨?_, ?_, ?_, ?_⟩, ?_⟩
    · rw [str_size, List.length_append]; simp
    · rw [str_size, List.length_append]; simp; omega
    · show Str.bad (bts (str _)) = false
      rw [bts_str]
      refine no_bad fun c hc => ?_
      rw [List.mem_append] at hc
      rcases hc with hc | hc
      · have := vld_ok hv hc; exact ⟨this.2.1, this.2.2⟩
      · simp at hc; subst hc; exact ⟨by decide, by decide⟩
    · show Lib.hasSuffix (bts (str _)) [32] = false
      rw [bts_str]
      unfold Lib.hasSuffix
      cases h : List.isSuffixOf [32] (bts n ++ [47])
      · rfl
      · obtain ⟨t, ht⟩ := List.isSuffixOf_iff_suffix.1 h
        have := congrArg List.getLast? ht
        simp at this
    · unfold isTab
      rw [Lib.toList_data]
      show (bts (str _) == [47, 47]) = false
      rw [bts_str]
      match hb : bts n, h1 with
      | c :: r, _ =>
        have hc := (vld_ok hv (c := c) (by rw [hb]; simp)).1
        simp [hc]
  · rw [if_neg hs]
    have hd := tx_digits (B := 10) (by decide) (by decide) (tab (longs pre)).length
    have hn : nd 10 (tab (longs pre)).length ≤ 6 := nd_le_of_lt (by decide) (by decide) (by omega)
    have hp := nd_pos 10 (tab (longs pre)).length
    have hlen := tx_length (B := 10) (by decide) (tab (longs pre)).length
    generalize tx 10 (tab (longs pre)).length = d at *
    have hdd : ∀ c ∈ d, 48 ≤ c.toNat ∧ c.toNat < 58 := fun c hc => by have := isD_iff.1 (hd c hc); omega
    refine ⟨nameOk_iff.2 ⟨?_, ?_, ?_, ?_⟩, ?_⟩
    · rw [str_size, List.length_append]; simp
    · rw [str_size, List.length_append]; simp; omega
    · show Str.bad (bts (str _)) = false
      rw [bts_str]
      refine no_bad fun c hc => ?_
      rw [List.mem_append] at hc
      rcases hc with hc | hc
      · simp at hc; subst hc; exact ⟨by decide, by decide⟩
      · have := hdd c hc
        exact ⟨fun e => by subst e; simp at this, fun e => by subst e; simp at this⟩
    · show Lib.hasSuffix (bts (str _)) [32] = false
      rw [bts_str]
      unfold Lib.hasSuffix
      cases h : List.isSuffixOf [32] ([47] ++ d)
      · rfl
      · obtain ⟨t, ht⟩ := List.isSuffixOf_iff_suffix.1 h
        have hm : (32 : UInt8) ∈ [47] ++ d := by rw [← ht]; simp
        rw [List.mem_append] at hm
        rcases hm with hm | hm
        · simp at hm
        · have := hdd _ hm; simp at this
    · unfold isTab
      rw [Lib.toList_data]
      show (bts (str _) == [47, 47]) = false
      rw [bts_str]
      match d, hlen with
      | c :: r, _ =>
        have := hdd c (by simp)
        have hc : c ≠ 47 := fun e => by subst e; simp at this
        simp [hc]
      | [], h => exact absurd h (by simp; omega)

theorem herr_map {A : Option Addr} {n c : Nat} {d : List UInt8} (hn : n ≤ 1000000) : herr (mpt A n c d) = 0 := by
  have h1 : nameOk ⟨#[47]⟩ = true := by decide +kernel
  have h2 : isTab ⟨#[47]⟩ = false := by decide +kernel
  have h3 : nd 10 n ≤ 10 := nd_le_of_lt (by decide) (by decide) (by omega)
  have h4 : nd 8 0 = 1 := nd_small (by decide)
  have h5 : nd 10 0 = 1 := nd_small (by decide)
  refine (eerr_0 h1 ?_).1
  simp [allOk, h2, okF, num, bs, wd, h4, h5, h3, mpt]
theorem herr_tab {A : Option Addr} {n c : Nat} {d : List UInt8} (hn : n ≤ 1000000) : herr (tpt A n c d) = 0 := by
  have h1 : nameOk ⟨#[47, 47]⟩ = true := by decide +kernel
  have h2 : isTab ⟨#[47, 47]⟩ = true := by decide +kernel
  have h3 : nd 10 n ≤ 10 := nd_le_of_lt (by decide) (by decide) (by omega)
  refine (eerr_0 h1 ?_).1
  simp [allOk, h2, okF, num, bs, wd, mo, h3, tpt]

theorem nms_allV {xs : List Mem} (h : ∀ x ∈ xs, fitsM x = 0) : allV (nms xs) = true :=
  allV_iff.2 fun n hn => by
    obtain ⟨x, hx, rfl⟩ := List.mem_map.1 hn
    exact (fitsM_zero (h x hx)).1
theorem bodyP_length {xs : List Mem} (h : ∀ x ∈ xs, fitsM x = 0) : (bodyP xs).length = xs.length := by
  unfold bodyP
  rw [List.length_zipWith, show fo (nms xs) = flds [] (nms xs) from if_pos (nms_allV h), flds_length]
  simp [nms]
theorem fo_at {xs : List Mem} (h : ∀ x ∈ xs, fitsM x = 0) {k : Nat} (hk : k < xs.length) : (fo (nms xs))[k]? = some (fld ((nms xs).take k) xs[k].name) := by
  rw [show fo (nms xs) = flds [] (nms xs) from if_pos (nms_allV h), flds_at [] (nms xs) k (by simpa [nms] using hk)]
  simp [nms]
theorem bodyP_at {xs : List Mem} (h : ∀ x ∈ xs, fitsM x = 0) {k : Nat} (hk : k < xs.length) : (bodyP xs)[k]'(by rw [bodyP_length h]; exact hk) = setN (fld ((nms xs).take k) xs[k].name) xs[k] := by
  unfold bodyP
  rw [List.getElem_zipWith]
  have h2 := fo_at h hk
  obtain ⟨h3, h4⟩ := List.getElem?_eq_some_iff.1 h2
  rw [h4]
theorem herr_body {xs : List Mem} (h : ∀ x ∈ xs, fitsM x = 0) (hn : xs.length ≤ 100) {k : Nat} (hk : k < xs.length) : herr (setN (fld ((nms xs).take k) xs[k].name) xs[k]) = 0 := by
  obtain ⟨hv, ha⟩ := fitsM_zero (h xs[k] (List.getElem_mem hk))
  have hal : allV ((nms xs).take k) = true := allV_iff.2 fun n hm => allV_iff.1 (nms_allV h) n (List.mem_of_mem_take hm)
  have hl := tabl_len hal (k := 100) (by rw [List.length_take]; simp [nms]; omega)
  obtain ⟨h1, h2⟩ := fld_ok (pre := (nms xs).take k) hv (by omega)
  have h3 : isTab ⟨#[47, 48]⟩ = false := by decide +kernel
  refine (eerr_0 h1 ?_).1
  rw [← ha]
  exact allOk_tab (h2.trans h3.symm) 5
end Go.Proofs.YtpedngfmjhpojaaGreatDoor.Arw

namespace Go.Proofs.YtpedngfmjhpojaaGreatDoor.Byt
open Go.RowKit Go.Proofs
open Go.Proofs.YtpedngfmjhpojaaGreatDoor.Sls (Fr Fr.ahead blk)

theorem kB : Cel.Kind 23 5 1 1 (.int .u8 0) := ⟨by kernel_rfl, by kernel_rfl, by kernel_rfl, by decide⟩
theorem Own.cel {w : World} {K n : Nat} {v : Value} {l : List UInt8} : Own w K v n l ↔ Cel.Own 5 1 w K v n (enc l) := by
  unfold Own Cel.Own
  simp only [Nat.mul_one, enc_length]
theorem Rd.cel {w : World} {K n : Nat} {A : Option Addr} {xs : List UInt8} (h : Rd w K A n xs) : Cel.Rd w K A n 1 (enc xs) :=
  ⟨by rw [enc_length, Nat.mul_one]; exact h.1, fun k hk => by
    rw [enc_length] at hk
    obtain ⟨b, o, e, hl, hc⟩ := h.2 k hk
    exact ⟨b, o, e, hl, by rw [hc]; simp [enc]⟩⟩

theorem wpList_appF {ops : Array Oper} {rest : List Oper} {o : Oper} {a : Act} {Q : Exit → Act → World → Prop} (w : World) (K : Nat) (v : Value) (n : Nat) (l : List UInt8)
    (hown : Own w K v n l) (hK : K ≤ w.heap.size) (A : Option Addr) (k c B : Nat) (src : List UInt8) (hr : Rd w B A k src) (hsz : n + k ≤ 1000000) (hgd : o.guard = none) (s x : Operand)
    (ho : o.op = .call { callee := .builtin .append, args := #[s, x], argTypes := #[23, 23] })
    (hs : a.eval s = v) (hx : a.eval x = .slice A k c)
    (h : ∀ v' w', Own w' K v' (n + k) (l ++ src) → Below K w w' → Fr v w v' w' → wpList Tryz.prog ops Q rest (a.put o.dst v') w') :
    wpList Tryz.prog ops Q (o :: rest) a w := by
  refine wpList_plain hgd fun K' hK' => ?_
  obtain ⟨v', w', hrun, r1, r2, r3⟩ := Cel.run_rd kB w K B o.type v n (enc l) (Own.cel.1 hown) hK A k c (enc src) hr.cel enc_one hsz (by omega)
  unfold Oper.wp execOp
  simp only [ho, resolve, invoke, builtin, Sem.run_bind, Sem.run_pure, Result.andThen_ok, List.map_toArray, List.map_cons, List.map_nil, hs, hx, hrun]
  exact hK' _ _ (h v' w' (Own.cel.2 (by rw [enc_append]; exact r1)) r2 r3)

theorem wpList_pushF {ops : Array Oper} {rest : List Oper} {o : Oper} {a : Act} {Q : Exit → Act → World → Prop} (w : World) (K : Nat) (v : Value) (n : Nat) (l : List UInt8) (u : UInt8) (X : Int) (hX : X = (u.toNat : Int))
    (hown : Own w K v n l) (hK : K ≤ w.heap.size) (hn : n < 1000000) (hgd : o.guard = none) (s x : Operand)
    (ho : o.op = .call { callee := .builtin .append, args := #[s, x], argTypes := #[23, 23] })
    (hs : a.eval s = v) (hx : a.eval x = .slice (some ⟨w.heap.size, 0, none⟩) 1 1)
    (h : ∀ v' w', Own w' K v' (n + 1) (l ++ [u]) → Below K w w' → Fr v w v' w' → wpList Tryz.prog ops Q rest (a.put o.dst v') w') :
    wpList Tryz.prog ops Q (o :: rest) a (w.alloc (.cells #[.int .u8 X] 5)) := by
  subst hX
  refine wpList_appF _ K v n l (hown.alloc _) (by simp; omega) (some ⟨w.heap.size, 0, none⟩) 1 1 (w.heap.size + 1) [u] ⟨rfl, fun k hk => ⟨w.heap.size, 0, rfl, by omega, ?_⟩⟩ (by omega) hgd s x ho hs hx
    (fun v' w' h1 h2 h3 => h v' w' h1 (((Below.refl K w).alloc hK _).trans h2) (Fr.ahead _ h3))
  simp only [List.length_singleton] at hk
  obtain rfl : k = 0 := by omega
  rw [cell_of_row _ w.heap.size (0 + 0) _ 5 (0, 0) (heap_alloc_new w _)]
  rfl
theorem step_appF {ops : Array Oper} {o : Oper} {a : Act} {C : Act → World → Prop} {Q : Exit → Act → World → Prop} {E : Prop} (w : World) (K : Nat) (v : Value) (n : Nat) (l : List UInt8)
    (hown : Own w K v n l) (hK : K ≤ w.heap.size) (A : Option Addr) (k c B : Nat) (src : List UInt8) (hr : Rd w B A k src) (hsz : n + k ≤ 1000000) (hgd : o.guard = none) (s x : Operand)
    (ho : o.op = .call { callee := .builtin .append, args := #[s, x], argTypes := #[23, 23] })
    (hs : a.eval s = v) (hx : a.eval x = .slice A k c)
    (h : ∀ v' w', Own w' K v' (n + k) (l ++ src) → Below K w w' → Fr v w v' w' → C (a.put o.dst v') w') :
    if Region.wanted o (yielded ops a.tmps) = true then Oper.wp Tryz.prog o a w C Q else E := by
  have hw : Region.wanted o (yielded ops a.tmps) = true := by simp [Region.wanted, hgd]
  rw [if_pos hw]
  obtain ⟨v', w', hrun, r1, r2, r3⟩ := Cel.run_rd kB w K B o.type v n (enc l) (Own.cel.1 hown) hK A k c (enc src) hr.cel enc_one hsz (by omega)
  unfold Oper.wp execOp
  simp only [ho, resolve, invoke, builtin, Sem.run_bind, Sem.run_pure, Result.andThen_ok, List.map_toArray, List.map_cons, List.map_nil, hs, hx, hrun]
  exact h v' w' (Own.cel.2 (by rw [enc_append]; exact r1)) r2 r3
theorem Own.fr {w w' : World} {K n : Nat} {v u u' : Value} {l : List UInt8} (h : Own w K v n l) (ho : Fr u w u' w') (ha : Sls.Apart v u) : Own w' K v n l :=
  Own.cel.2 ((Own.cel.1 h).fr ho ha)
theorem Own.blk_lt {w : World} {K n : Nat} {v : Value} {l : List UInt8} (h : Own w K v n l) {k : Nat} (hk : blk v = some k) : k < w.heap.size := (Own.cel.1 h).blk_lt hk
theorem Own.blk_ge {w : World} {K n : Nat} {v : Value} {l : List UInt8} (h : Own w K v n l) {k : Nat} (hk : blk v = some k) : K ≤ k := by
  rcases h.2 with ⟨rfl, _⟩ | ⟨g, cap, cur, m, rfl, hg, _⟩
  · cases hk
  · injection hk with hk
    subst hk
    exact hg
end Go.Proofs.YtpedngfmjhpojaaGreatDoor.Byt

namespace Go.Proofs.YtpedngfmjhpojaaGreatDoor.Arw
open Go.RowKit Go.Proofs Go.Proofs.YtpedngfmjhpojaaGreatDoor.Byt Go.Proofs.YtpedngfmjhpojaaGreatDoor.Dec Go.Proofs.YtpedngfmjhpojaaGreatDoor.Lnm Go.Proofs.YtpedngfmjhpojaaGreatDoor.Hdr Go.Proofs.YtpedngfmjhpojaaGreatDoor.Arp
open Go.Proofs.YtpedngfmjhpojaaGreatDoor.Sls (Fr blk)

/-- What a writer's step leaves: all blocks below K, and all but the writer's cell B and the slice's own block. -/
structure Fw (K B : Nat) (v : Value) (W : World) (v' : Value) (W' : World) : Prop where
  below : Below K W W'
  size : W.heap.size ≤ W'.heap.size
  keep : ∀ k, k < W.heap.size → k ≠ B → blk v ≠ some k → W'.heap[k]? = W.heap[k]?
  tgt : ∀ k, blk v' = some k → blk v = some k ∨ W.heap.size ≤ k
theorem Fw.refl (K B : Nat) (v : Value) (W : World) : Fw K B v W v W := ⟨Below.refl _ _, Nat.le_refl _, fun _ _ _ _ => rfl, fun _ h => .inl h⟩
theorem Fw.trans {K B : Nat} {v v' v'' : Value} {W W' W'' : World} (h : Fw K B v W v' W') (k : Fw K B v' W' v'' W'') : Fw K B v W v'' W'' :=
  ⟨h.below.trans k.below, Nat.le_trans h.size k.size, fun j hj hB hv => by
    have := h.size
    rw [k.keep j (by omega) hB (fun e => by rcases h.tgt j e with q | q; exact hv q; omega)]
    exact h.keep j hj hB hv, fun j hj => by
    rcases k.tgt j hj with q | q
    · exact h.tgt j q
    · have := h.size; exact .inr (by omega)⟩
theorem Fw.of_below {K B : Nat} {v : Value} {W W' : World} (h : Below W.heap.size W W') (hK : K ≤ W.heap.size) : Fw K B v W v W' :=
  ⟨h.mono hK, h.size, fun k hk _ _ => h.block k hk, fun _ e => .inl e⟩
theorem Fw.of_fr {K B : Nat} {v v' : Value} {W W' : World} (h : Fr v W v' W') (hb : Below K W W') (hs : W.heap.size ≤ W'.heap.size) : Fw K B v W v' W' :=
  ⟨hb, hs, fun k hk _ hv => h.1 k hk hv, h.2⟩
/-- What is read lies apart from the writer. -/
def Apt (n : Nat) (A : Option Addr) (v : Value) (B : Nat) : Prop := ∀ a, 0 < n → A = some a → a.block ≠ B ∧ blk v ≠ some a.block
theorem Apt.fw {K B n : Nat} {A : Option Addr} {v v' : Value} {W W' : World} {xs : List UInt8} {K' : Nat} (h : Apt n A v B) (hr : Rd W K' A n xs) (hK : K' ≤ W.heap.size) (hf : Fw K B v W v' W') : Apt n A v' B := fun a hn e => by
  obtain ⟨h1, h2⟩ := h a hn e
  refine ⟨h1, fun q => ?_⟩
  rcases hf.tgt _ q with q | q
  · exact h2 q
  · obtain ⟨b, o, e2, hl, _⟩ := hr.2 0 (by rw [hr.1]; exact hn)
    rw [e] at e2
    injection e2 with e2
    subst e2
    simp only at q
    omega
theorem cell_eq {W W' : World} {b o : Nat} (h : W'.heap[b]? = W.heap[b]?) : W'.cell? ⟨b, o, none⟩ = W.cell? ⟨b, o, none⟩ := by
  unfold World.cell?
  simp only [h]
theorem Rd.fw {K B n : Nat} {A : Option Addr} {v v' : Value} {W W' : World} {xs : List UInt8} {K' : Nat} (hr : Byt.Rd W K' A n xs) (hK : K' ≤ W.heap.size) (h : Apt n A v B) (hf : Fw K B v W v' W') : Byt.Rd W' K' A n xs :=
  ⟨hr.1, fun k hk => by
    obtain ⟨b, o, e, hl, hc⟩ := hr.2 k hk
    obtain ⟨h1, h2⟩ := h _ (by have := hr.1; omega) e
    exact ⟨b, o, e, hl, by rw [cell_eq (hf.keep b (by omega) h1 h2)]; exact hc⟩⟩
theorem own_ne {w : World} {K n : Nat} {v : Value} {l : List UInt8} (h : Byt.Own w K v n l) {B : Nat} {cs : Array Value} {t : TypeId} {m : Nat × Nat} (hB : w.heap[B]? = some (.cells cs t m)) (ht : t ≠ 5) : blk v ≠ some B := fun e => by
  rcases h.2 with ⟨rfl, _⟩ | ⟨g, cap, cur, m', rfl, _, hg, _⟩
  · cases e
  · injection e with e
    simp only at e
    subst e
    rw [hB] at hg
    injection hg with hg
    injection hg with _ hg _
    exact ht hg
theorem Fw.set {K B : Nat} {v v' : Value} {W : World} (hK : K ≤ B) (hv : ∀ k, blk v' = some k → blk v = some k ∨ W.heap.size ≤ k) (y : Value) : Fw K B v W v' (W.setCell ⟨B, 0, none⟩ y) :=
  ⟨(Below.refl K W).setCell (p := ⟨B, 0, none⟩) hK y, by have := ((Below.refl 0 W).setCell (p := ⟨B, 0, none⟩) (Nat.zero_le _) y).size; exact this, fun k _ hk _ => Below.heap_setCell W ⟨B, 0, none⟩ y k hk, hv⟩
theorem Fw.row {K B : Nat} {v v' : Value} {W W' : World} (h : Fw K B v W v' W') {g : Nat} {o : Obj} (hg : W.heap[g]? = some o) (h1 : g ≠ B) (h2 : blk v ≠ some g) : W'.heap[g]? = some o :=
  (h.keep g (Array.getElem?_eq_some_iff.1 hg).1 h1 h2).trans hg
end Go.Proofs.YtpedngfmjhpojaaGreatDoor.Arw
