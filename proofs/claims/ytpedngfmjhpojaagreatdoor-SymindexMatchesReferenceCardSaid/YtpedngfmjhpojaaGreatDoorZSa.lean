/-
  symindex: definitions, the index of members, the complete archive (mathematics).
  symindex's reference: Defs.
-/
import Derived.Test.YtpedngfmjhpojaaGreatDoorZOn
import Derived.Test.YtpedngfmjhpojaaGreatDoorZWk
import Derived.Test.YtpedngfmjhpojaaGreatDoorZWe
import Derived.Test.YtpedngfmjhpojaaGreatDoorZAh
import Derived.Test.YtpedngfmjhpojaaGreatDoorZAf
import Derived.Test.YtpedngfmjhpojaaGreatDoorZMg
namespace Go.Proofs.YtpedngfmjhpojaaGreatDoor.Six
open Go.RowKit Go.Proofs Go.Proofs.YtpedngfmjhpojaaGreatDoor.Byt
open Go.Proofs.YtpedngfmjhpojaaGreatDoor.Arp (Mem)
open Go.Proofs.YtpedngfmjhpojaaGreatDoor.Arw (MOk fitL fitsM offL offAt base nms arch pz ints fitL_zero lens fewM fewM_iff)
open Go.Proofs.YtpedngfmjhpojaaGreatDoor.Amp (En enOk nmOk encA fitA szS szN nmsE enOk_iff nmOk_iff fitA_iff)

/-- The definitions of data. -/
def isDef (x : Obj.Sy) : Bool := x.bind == 1 || x.bind == 2
def defsS (xs : List Obj.Sy) : List ByteArray := (xs.filter isDef).map (·.name)
def defs (l : List UInt8) : List ByteArray := defsS (Obj.decO l).2.1
theorem defsS_append (a b : List Obj.Sy) : defsS (a ++ b) = defsS a ++ defsS b := by simp [defsS]
theorem defsS_one_yes {x : Obj.Sy} (h : isDef x = true) : defsS [x] = [x.name] := by simp [defsS, h]
theorem defsS_one_no {x : Obj.Sy} (h : isDef x = false) : defsS [x] = [] := by simp [defsS, h]
/-- What a decoding is known to be. -/
theorem syms_known (l : List UInt8) : (∀ x ∈ (Obj.decO l).2.1, Obj.symOk x = true) ∧ (Obj.encL (Obj.decO l).2.1).length ≤ l.length := by
  by_cases h : (Obj.decO l).1 = 0
  · have h1 := Obj.enc_decO l (Obj.decO l).2.1 (Obj.decO l).2.2 (by rw [← h])
    have h2 := h1.1
    unfold Obj.validO at h2
    rw [Bool.and_eq_true] at h2
    refine ⟨Obj.goodL_all h2.2, ?_⟩
    have h3 := congrArg List.length h1.2
    unfold Obj.encO at h3
    simp only [List.length_append] at h3
    omega
  · rw [Obj.decO_bad l h]
    exact ⟨fun x hx => by simp at hx, by simp [Obj.encL]⟩
theorem encL_size : ∀ xs : List Obj.Sy, (Obj.encL xs).length = (xs.map fun x => 10 + x.name.size).sum
  | [] => rfl
  | x :: r => by
    have e : Obj.encL (x :: r) = Obj.encS x ++ Obj.encL r := by simp [Obj.encL]
    rw [e, List.length_append, Obj.encS_length, encL_size r]
    simp
def szD (ns : List ByteArray) : Nat := (ns.map fun s => s.size + 5).sum
theorem szS_eq (ns : List ByteArray) : szS ns = 4 + szD ns := rfl
theorem szD_append (a b : List ByteArray) : szD (a ++ b) = szD a + szD b := by simp [szD]
theorem szD_defsS : ∀ xs : List Obj.Sy, szD (defsS xs) ≤ (xs.map fun x => 10 + x.name.size).sum
  | [] => by simp [szD, defsS]
  | x :: r => by
    have ih := szD_defsS r
    have e : defsS (x :: r) = defsS [x] ++ defsS r := by rw [← defsS_append]; rfl
    rw [e, szD_append, List.map_cons, List.sum_cons]
    cases h : isDef x
    · rw [defsS_one_no h]
      simp only [szD, List.map_nil, List.sum_nil] at ih ⊢
      omega
    · rw [defsS_one_yes h]
      simp only [szD, List.map_cons, List.map_nil, List.sum_cons, List.sum_nil] at ih ⊢
      omega
theorem szD_defs (l : List UInt8) : szD (defs l) ≤ l.length := by
  have h1 := szD_defsS (Obj.decO l).2.1
  have h2 := (syms_known l).2
  rw [encL_size] at h2
  exact Nat.le_trans h1 h2
theorem szD_len : ∀ ns : List ByteArray, ns.length * 5 ≤ szD ns
  | [] => by simp
  | t :: r => by
    have e : szD (t :: r) = (t.size + 5) + szD r := by simp [szD]
    have := szD_len r
    rw [List.length_cons]
    omega
theorem defs_len (l : List UInt8) : (defs l).length ≤ l.length := by
  have := szD_len (defs l)
  have := szD_defs l
  omega
theorem defs_ok {l : List UInt8} {s : ByteArray} (h : s ∈ defs l) : nmOk s.data.toList = true ∧ s.size ≤ 255 := by
  unfold defs defsS at h
  obtain ⟨x, hx, rfl⟩ := List.mem_map.1 h
  have h1 := (syms_known l).1 x (List.mem_filter.1 hx).1
  unfold Obj.symOk at h1
  rw [Bool.and_eq_true] at h1
  have h2 := h1.1
  have h3 := Obj.nameOk_range h2
  unfold Obj.nameOk at h2
  rw [Bool.and_eq_true, Bool.and_eq_true] at h2
  refine ⟨nmOk_iff.2 ⟨fun e => ?_, by simpa using h2.2.2⟩, h3.2⟩
  have := congrArg List.length e
  rw [Amp.len_list, List.length_nil] at this
  omega

/-- The names of the index; whether there is a map, and its size. -/
def namesM (xs : List Mem) : List ByteArray := xs.flatMap fun x => defs x.data
def hmF (xs : List Mem) : Bool := decide (0 < (namesM xs).length)
theorem namesM_cons (x : Mem) (r : List Mem) : namesM (x :: r) = defs x.data ++ namesM r := by simp [namesM]
theorem namesM_append (a b : List Mem) : namesM (a ++ b) = namesM a ++ namesM b := by simp [namesM]
theorem namesM_take {xs : List Mem} {k : Nat} (hk : k < xs.length) : namesM (xs.take (k + 1)) = namesM (xs.take k) ++ defs xs[k].data := by
  rw [List.take_succ_eq_append_getElem hk, namesM_append, namesM_cons]
  simp [namesM]
def lensD (xs : List Mem) : Nat := (xs.map fun x => x.data.length).sum
theorem szD_names : ∀ xs : List Mem, szD (namesM xs) ≤ lensD xs
  | [] => by simp [szD, namesM]
  | x :: r => by
    rw [namesM_cons, szD_append]
    have h1 := szD_names r
    have h2 := szD_defs x.data
    have e : lensD (x :: r) = x.data.length + lensD r := by simp [lensD]
    omega
theorem lensD_eq {xs : List Mem} (h : ∀ x ∈ xs, x.data.length = x.len) : lensD xs = lens xs := by
  unfold lensD lens
  rw [List.map_congr_left h]
theorem names_ok {xs : List Mem} {s : ByteArray} (h : s ∈ namesM xs) : nmOk s.data.toList = true ∧ s.size ≤ 255 := by
  obtain ⟨x, _, h⟩ := List.mem_flatMap.1 h
  exact defs_ok h

/-- The entries, at these offsets. -/
def entsF : List Nat → List Mem → List En
  | o :: os, x :: xs => ((defs x.data).map fun s => (⟨s, (o : Int)⟩ : En)) ++ entsF os xs
  | _, _ => []
def offF (xs : List Mem) : List Nat := offL (base (hmF xs) (szS (namesM xs)) xs) xs
def idx (xs : List Mem) : List En := entsF (offF xs) xs
theorem offL_length (o : Nat) (xs : List Mem) : (offL o xs).length = xs.length := by simp [offL]
theorem offF_length (xs : List Mem) : (offF xs).length = xs.length := offL_length _ _
theorem entsF_names : ∀ (os : List Nat) (xs : List Mem), os.length = xs.length → (entsF os xs).map (·.name) = namesM xs
  | [], [], _ => rfl
  | o :: os, x :: xs, h => by
    rw [List.length_cons, List.length_cons] at h
    rw [entsF, List.map_append, entsF_names os xs (by omega), namesM_cons, List.map_map]
    congr 1
    conv => rhs; rw [← List.map_id (defs x.data)]
    rfl
  | [], _ :: _, h => by simp at h
  | _ :: _, [], h => by simp at h
theorem idx_names (xs : List Mem) : (idx xs).map (·.name) = namesM xs := entsF_names _ _ (offF_length xs)
theorem idx_length (xs : List Mem) : (idx xs).length = (namesM xs).length := by rw [← idx_names, List.length_map]
theorem idx_size (xs : List Mem) : (encA (idx xs)).length = szS (namesM xs) := by rw [← Amp.szS_enc, idx_names]
theorem entsF_append : ∀ (os ps : List Nat) (xs ys : List Mem), os.length = xs.length → entsF (os ++ ps) (xs ++ ys) = entsF os xs ++ entsF ps ys
  | [], _, [], _, _ => rfl
  | o :: os, ps, x :: xs, ys, h => by
    rw [List.length_cons, List.length_cons] at h
    rw [List.cons_append, List.cons_append, entsF, entsF, entsF_append os ps xs ys (by omega), List.append_assoc]
  | [], _, _ :: _, _, h => by simp at h
  | _ :: _, _, [], _, h => by simp at h
theorem entsF_take {os : List Nat} {xs : List Mem} (h : os.length = xs.length) {k : Nat} (hk : k < xs.length) :
    entsF (os.take (k + 1)) (xs.take (k + 1)) = entsF (os.take k) (xs.take k) ++ (defs xs[k].data).map fun s => (⟨s, ((os[k]'(by omega) : Nat) : Int)⟩ : En) := by
  rw [List.take_succ_eq_append_getElem hk, List.take_succ_eq_append_getElem (show k < os.length by omega), entsF_append _ _ _ _ (by simp; omega)]
  simp [entsF]
theorem entsF_mem : ∀ {os : List Nat} {xs : List Mem} {e : En}, e ∈ entsF os xs → ∃ (k : Nat) (h1 : k < os.length) (h2 : k < xs.length), e.off = (os[k] : Int) ∧ e.name ∈ defs xs[k].data
  | o :: os, x :: xs, e, h => by
    rw [entsF, List.mem_append] at h
    rcases h with h | h
    · obtain ⟨s, hs, rfl⟩ := List.mem_map.1 h
      exact ⟨0, by simp, by simp, rfl, hs⟩
    · obtain ⟨k, h1, h2, h3, h4⟩ := entsF_mem h
      exact ⟨k + 1, by simp; omega, by simp; omega, by simpa using h3, by simpa using h4⟩
  | [], _, e, h => by simp [entsF] at h
  | _ :: _, [], e, h => by simp [entsF] at h

/-- What is known of few members. -/
structure Few (xs : List Mem) : Prop where
  n : xs.length ≤ 20
  ok : ∀ x ∈ xs, MOk x
  len : ∀ x ∈ xs, x.data.length = x.len
  all : lens xs ≤ 5000
theorem Few.names {xs : List Mem} (h : Few xs) : szS (namesM xs) ≤ 5004 := by
  have h1 := szD_names xs
  rw [lensD_eq h.len] at h1
  have := h.all
  rw [szS_eq]
  omega
theorem Few.count {xs : List Mem} (h : Few xs) : (namesM xs).length ≤ 1000 := by
  have h1 := szD_len (namesM xs)
  have h2 := h.names
  rw [szS_eq] at h2
  omega
theorem Few.off {xs : List Mem} (h : Few xs) {o : Nat} (ho : o ∈ offF xs) : o ≤ 200000 := by
  unfold offF offL at ho
  obtain ⟨k, hk, rfl⟩ := List.mem_map.1 ho
  rw [List.mem_range] at hk
  have h1 := Arw.base_le (hm := hmF xs) (ms := szS (namesM xs)) (xs := xs) (by have := h.names; omega) h.n
  have h2 := Arw.offAt_le (o := base (hmF xs) (szS (namesM xs)) xs) h.ok k (by omega)
  have := h.n
  have h3 : k * 1061 ≤ 20 * 1061 := Nat.mul_le_mul_right _ (by omega)
  omega
theorem Few.fit {xs : List Mem} (h : Few xs) : fitA (idx xs) = true := fitA_iff.2 fun e he => by
  obtain ⟨k, h1, h2, h3, h4⟩ := entsF_mem he
  have h5 := h.off (List.getElem_mem h1)
  exact enOk_iff.2 ⟨(defs_ok h4).1, by omega, by omega⟩
theorem Few.idx_len {xs : List Mem} (h : Few xs) : (idx xs).length ≤ 1000 := by rw [idx_length]; exact h.count
theorem Few.idx_name {xs : List Mem} {e : En} (he : e ∈ idx xs) : e.name.size ≤ 255 := by
  obtain ⟨k, h1, h2, h3, h4⟩ := entsF_mem he
  exact (defs_ok h4).2
/-- What Complete, Index and the reference give. -/
def cOut (xs : List Mem) : List UInt8 := if (fitL 0 xs).2 = 0 then arch (hmF xs) (encA (idx xs)) xs else []
def iOut (xs : List Mem) : List En := if (fitL 0 xs).2 = 0 then idx xs else []
def oOut (xs : List Mem) : List Nat := if (fitL 0 xs).2 = 0 then offF xs else []
end Go.Proofs.YtpedngfmjhpojaaGreatDoor.Six

namespace Go.Proofs.YtpedngfmjhpojaaGreatDoor.Six
open Go.RowKit Go.Proofs Go.Proofs.YtpedngfmjhpojaaGreatDoor.Byt

/-- What Defs gives. -/
def DefsP (l : List UInt8) (w : World) (e : Ending) (w' : World) : Prop :=
  ∃ A n c, e = .returned (.slice A n c) ∧ Sls.Own w' w.heap.size (.slice A n c) n (defs l) ∧ Below w.heap.size w w'
theorem DefsP.reads {l : List UInt8} {w w' : World} {e : Ending} (h : DefsP l w e w') :
    ∃ A n c, e = .returned (.slice A n c) ∧ n = (defs l).length ∧ Sls.Own w' w.heap.size (.slice A n c) n (defs l) ∧ Sls.Rd w' w'.heap.size A n (defs l) ∧ n ≤ c ∧ c ≤ maxLen ∧ Below w.heap.size w w' := by
  obtain ⟨A, n, c, rfl, ho, hb⟩ := h
  obtain ⟨A', c', e1, hr, hnc, hc⟩ := ho.reads
  injection e1 with e11 _ e13
  subst e11 e13
  exact ⟨A, n, c, rfl, ho.1.symm, ho, hr, hnc, hc, hb⟩
theorem defsS_take {xs : List Obj.Sy} {k : Nat} (hk : k < xs.length) : defsS (xs.take (k + 1)) = defsS (xs.take k) ++ defsS [xs[k]] := by
  rw [List.take_succ_eq_append_getElem hk, defsS_append]

set_option maxRecDepth 100000 in
set_option maxHeartbeats 4000000 in
theorem rdefs_any (K : Nat) (A : Option Addr) (n c : Nat) (l : List UInt8) (w : World) (hr : Byt.Rd w K A n l) (hK : K ≤ w.heap.size) (hnc : n ≤ c) (hn : n ≤ 100000) :
    Calls Tryz.prog 17 #[.slice A n c] w (DefsP l w) := by
  go_enter Tryz.func17, Tryz.ntmps17
  go_wp2_with fail
  refine (Obj.rdecode_any K A n c l w hr hK hnc (by omega)).mono ?_
  rintro e w1 hD
  obtain ⟨A1, n1, c1, B1, m1, d1, rfl, hs1, _, hnc1, hn1, _, _, _, hb1⟩ := hD.reads
  have hrow := heap_alloc_new w1 (.cells #[.slice A1 n1 c1, .slice B1 m1 d1] 61)
  have hbA := (Below.refl w1.heap.size w1).alloc (Nat.le_refl _) (.cells #[.slice A1 n1 c1, .slice B1 m1 d1] 61)
  have hsz : (w1.alloc (.cells #[.slice A1 n1 c1, .slice B1 m1 d1] 61)).heap.size = w1.heap.size + 1 := World.size_alloc _ _
  have hs2 := hs1.below hbA
  have hb2 := hb1.trans (hbA.mono hb1.size)
  have HD : Hid (defs l = defsS (Obj.decO l).2.1) := hid rfl
  clear hD hs1 hbA hr hb1
  generalize (Obj.decO l).2.1 = xs at *
  generalize (Obj.decO l).1 = ze at *
  go_upto_region 3 with fail
  generalize w1.alloc (.cells #[.slice A1 n1 c1, .slice B1 m1 d1] 61) = w2 at *
  generalize w1.heap.size = g at *
  have Hl := hid hs2.1
  go_wp2_with fail
  go_loopw [3, 6] (fun v i W => ∃ (k j : Nat) (A2 : Option Addr) (c2 : Nat), i = .int .i64 (k : Int) ∧ k ≤ n1 ∧ v = .slice A2 j c2 ∧ j ≤ k ∧ Sls.Own W w2.heap.size (.slice A2 j c2) j (defsS (xs.take k)) ∧ Below w2.heap.size w2 W) (fun _ i _ => n1 - (intOf i).toNat)
  case atStart => exact ⟨0, 0, none, 0, rfl, by omega, rfl, by omega, Sls.Own.nil _ _, Below.refl _ _⟩
  case round =>
    obtain ⟨k, j, A2, c2, rfl, hk, rfl, hjk, hO, hb⟩ := hrel
    have hrowr := (hb.block g (by omega)).trans hrow
    have q0 := cell_of_row _ g 0 _ _ _ hrowr
    by_cases hlt : k < n1
    · have hkl : k < xs.length := by have := Hl.out; omega
      have hki : (k : Int) < (n1 : Int) := by omega
      obtain ⟨⟨b, o, rfl, hbK, hcell⟩, _⟩ := hs2.2 k hkl
      have hcl := hcell.below hb (by omega)
      have HT := hid (defsS_take hkl)
      clear hcell hrowr
      generalize xs[k] = x at *
      obtain ⟨x0, x1, x2, x3⟩ := x
      obtain ⟨p0, p1, p2, p3⟩ := hcl
      clear p2 p3
      have Hd : Hid (isDef ⟨x0, x1, x2, x3⟩ = (x1 == 1 || x1 == 2)) := hid rfl
      have hbs := hb.size
      cases h1 : (x1 == 1)
      · cases h2 : (x1 == 2)
        · have HT2 : Hid (defsS (xs.take (k + 1)) = defsS (xs.take k)) := hid (by rw [HT.out, defsS_one_no (by rw [Hd.out, h1, h2]; rfl), List.append_nil])
          go_wp2_with fail
          go_roundw
          · exact ⟨k + 1, j, A2, c2, by go_num, by omega, rfl, by omega, by rw [HT2.out]; exact hO, hb⟩
          · simp [intOf]; omega
        · have HT2 : Hid (defsS (xs.take (k + 1)) = defsS (xs.take k) ++ [x0]) := hid (by rw [HT.out, defsS_one_yes (by rw [Hd.out, h2]; simp)])
          go_wp2_with (at_builtin; go_must (refine Sls.wpList_push wr w2.heap.size (.slice A2 j c2) j _ x0 hO hbs (by omega) rfl (.tmp 35) (.tmp 42) rfl rfl rfl ?_); intro v4 w4 ho4 hb4 _ _; obtain ⟨A4, c4, rfl, _⟩ := ho4.reads)
          have ho4' : Sls.Own w4 w2.heap.size (.slice A4 (j + 1) c4) (j + 1) (defsS (xs.take (k + 1))) := by rw [HT2.out]; exact ho4
          have hb04 := hb.trans hb4
          clear ho4 hb4 hO hb p0 p1 h1 h2
          go_roundw
          · exact ⟨k + 1, j + 1, A4, c4, by go_num, by omega, rfl, by omega, ho4', hb04⟩
          · simp [intOf]; omega
      · have HT2 : Hid (defsS (xs.take (k + 1)) = defsS (xs.take k) ++ [x0]) := hid (by rw [HT.out, defsS_one_yes (by rw [Hd.out, h1]; rfl)])
        go_wp2_with (at_builtin; go_must (refine Sls.wpList_push wr w2.heap.size (.slice A2 j c2) j _ x0 hO hbs (by omega) rfl (.tmp 35) (.tmp 42) rfl rfl rfl ?_); intro v4 w4 ho4 hb4 _ _; obtain ⟨A4, c4, rfl, _⟩ := ho4.reads)
        have ho4' : Sls.Own w4 w2.heap.size (.slice A4 (j + 1) c4) (j + 1) (defsS (xs.take (k + 1))) := by rw [HT2.out]; exact ho4
        have hb04 := hb.trans hb4
        clear ho4 hb4 hO hb p0 p1 h1
        go_roundw
        · exact ⟨k + 1, j + 1, A4, c4, by go_num, by omega, rfl, by omega, ho4', hb04⟩
        · simp [intOf]; omega
    · obtain rfl : k = n1 := by omega
      have hki : ¬ (k : Int) < (k : Int) := by omega
      have hT : xs.take k = xs := List.take_of_length_le (by have := Hl.out; omega)
      rw [hT] at hO
      have hO2 := hO.more (K' := w.heap.size) hb2.size
      have hO3 : Sls.Own wr w.heap.size (.slice A2 j c2) j (defs l) := by rw [HD.out]; exact hO2
      have hb3 := hb2.trans (hb.mono hb2.size)
      clear hO hO2 hb hrowr hT
      go_wp2_with fail
      go_ret
      exact ⟨A2, j, c2, rfl, hO3, hb3⟩
end Go.Proofs.YtpedngfmjhpojaaGreatDoor.Six
