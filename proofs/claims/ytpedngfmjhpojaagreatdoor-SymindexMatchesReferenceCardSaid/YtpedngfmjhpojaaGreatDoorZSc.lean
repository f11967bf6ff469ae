/-
  symindex: what its reference's Complete leans on.
  symindex's reference: Complete.
-/
import Derived.Test.YtpedngfmjhpojaaGreatDoorZSa
import Derived.Test.YtpedngfmjhpojaaGreatDoorZOa
import Derived.Test.YtpedngfmjhpojaaGreatDoorZWm
namespace Go.Proofs.YtpedngfmjhpojaaGreatDoor.Cel
open Go.RowKit Go.Proofs
/-- A cell of a slice that the call has made. -/
theorem Own.at_ {t : TypeId} {sz : Nat} {w : World} {K n : Nat} {v : Value} {cs : List Value} (h : Own t sz w K v n cs) {j : Nat} (hj : j < cs.length) :
    ∃ g cap cur m, v = .slice (some ⟨g, 0, none⟩) n cap ∧ K ≤ g ∧ w.heap[g]? = some (.cells cur t m) ∧ w.cell? ⟨g, j, none⟩ = some cs[j] ∧ w.frozen? ⟨g, j, none⟩ = false ∧
      ∀ u, Own t sz (w.setCell ⟨g, j, none⟩ u) K v n (cs.set j u) := by
  have hl := h.1
  rcases h.2 with ⟨rfl, rfl⟩ | ⟨g, cap, cur, m, rfl, hg, hh, hn, hm, hs, ht, hf⟩
  · rw [hl] at hj; simp at hj
  · have hle : n * sz ≤ cap * sz := Nat.mul_le_mul_right _ hn
    have hc : cur[j]? = some cs[j] := by
      have h1 : (cur.toList.take (n * sz))[j]? = some cs[j] := by rw [ht, List.getElem?_eq_getElem hj]
      rw [List.getElem?_take, if_pos (by omega)] at h1
      simpa using h1
    refine ⟨g, cap, cur, m, rfl, hg, hh, by rw [cell_of_row w g j cur t m hh]; exact hc, ?_, fun u => ⟨by rw [List.length_set]; exact hl, .inr ⟨g, cap, cur.setIfInBounds j u, m, rfl, hg, ?_, hn, hm, by simpa using hs, ?_, hf⟩⟩⟩
    · have := hf j (by omega)
      simp [World.frozen?, hh]
      omega
    · simp [World.setCell, Array.getElem?_modify, hh]
    · rw [Array.toList_setIfInBounds, List.take_set, ht]
end Go.Proofs.YtpedngfmjhpojaaGreatDoor.Cel
namespace Go.Proofs.YtpedngfmjhpojaaGreatDoor.Six
open Go.RowKit Go.Proofs Go.Proofs.YtpedngfmjhpojaaGreatDoor.Byt
open Go.Proofs.YtpedngfmjhpojaaGreatDoor.Sls (Oth)
open Go.Proofs.YtpedngfmjhpojaaGreatDoor.Arp (Mem)
open Go.Proofs.YtpedngfmjhpojaaGreatDoor.Arw (fitL ints)
open Go.Proofs.YtpedngfmjhpojaaGreatDoor.Amp (En ecells encA fitA szS enOk_iff fitA_iff)

theorem sown_oth {t : TypeId} {w w' : World} {K n : Nat} {v : Value} {l : List ByteArray} (h : Sls.Own w K v n l) (ho : Oth t w w') (ht : (9 : Nat) ≠ t) : Sls.Own w' K v n l := by
  refine ⟨h.1, ?_⟩
  rcases h.2 with h | ⟨g, cap, cur, m, hv, hg, hh, r⟩
  · exact .inl h
  · exact .inr ⟨g, cap, cur, m, hv, hg, ho g _ hh (fun cs m' e => by injection e with _ e2; exact ht e2), r⟩

/-- Entries without offsets; the members that they are of. -/
def zeroE (ns : List ByteArray) : List En := ns.map fun s => (⟨s, 0⟩ : En)
def ofL : Nat → List Mem → List Nat
  | _, [] => []
  | i, x :: r => List.replicate (defs x.data).length i ++ ofL (i + 1) r
theorem zeroE_append (a b : List ByteArray) : zeroE (a ++ b) = zeroE a ++ zeroE b := by simp [zeroE]
theorem zeroE_length (a : List ByteArray) : (zeroE a).length = a.length := by simp [zeroE]
theorem zeroE_names (a : List ByteArray) : (zeroE a).map (·.name) = a := by
  unfold zeroE
  rw [List.map_map]
  conv => rhs; rw [← List.map_id a]
  rfl
theorem zeroE_size (ns : List ByteArray) : (encA (zeroE ns)).length = szS ns := by rw [← Amp.szS_enc, zeroE_names]
theorem ofL_append : ∀ (i : Nat) (a b : List Mem), ofL i (a ++ b) = ofL i a ++ ofL (i + a.length) b
  | i, [], b => by simp [ofL]
  | i, x :: a, b => by
    rw [List.cons_append, ofL, ofL, ofL_append (i + 1) a b, List.append_assoc, List.length_cons, show i + 1 + a.length = i + (a.length + 1) by omega]
theorem ofL_length : ∀ (i : Nat) (xs : List Mem), (ofL i xs).length = (namesM xs).length
  | _, [] => rfl
  | i, x :: r => by rw [ofL, List.length_append, List.length_replicate, ofL_length (i + 1) r, namesM_cons, List.length_append]
theorem ofL_take {xs : List Mem} {k : Nat} (hk : k < xs.length) : ofL 0 (xs.take (k + 1)) = ofL 0 (xs.take k) ++ List.replicate (defs xs[k].data).length k := by
  rw [List.take_succ_eq_append_getElem hk, ofL_append, List.length_take, Nat.min_eq_left (by omega), Nat.zero_add]
  simp [ofL]
theorem ofL_lt : ∀ (i : Nat) (xs : List Mem), ∀ j ∈ ofL i xs, i ≤ j ∧ j < i + xs.length
  | _, [], j, h => by simp [ofL] at h
  | i, x :: r, j, h => by
    rw [ofL, List.mem_append] at h
    rw [List.length_cons]
    rcases h with h | h
    · have := (List.mem_replicate.1 h).2
      omega
    · have := ofL_lt (i + 1) r j h
      omega
/-- An entry is that of its member. -/
theorem entsF_zip : ∀ (i : Nat) (os : List Nat) (xs : List Mem), os.length = xs.length → entsF os xs = List.zipWith (fun s j => (⟨s, ((os.getD (j - i) 0 : Nat) : Int)⟩ : En)) (namesM xs) (ofL i xs)
  | _, [], [], _ => rfl
  | i, o :: os, x :: xs, h => by
    rw [List.length_cons, List.length_cons] at h
    rw [entsF, namesM_cons, ofL, List.zipWith_append (by simp), entsF_zip (i + 1) os xs (by omega)]
    congr 1
    · apply List.ext_getElem
      · simp
      · intro k h1 h2
        simp
    · apply List.ext_getElem
      · simp
      · intro k h1 h2
        rw [List.getElem_zipWith, List.getElem_zipWith]
        have hj := ofL_lt (i + 1) xs _ (List.getElem_mem (show k < (ofL (i + 1) xs).length by simp at h1; omega))
        congr 2
        rw [show (ofL (i + 1) xs)[k]'(by simp at h1; omega) - i = ((ofL (i + 1) xs)[k]'(by simp at h1; omega) - (i + 1)) + 1 by omega, List.getD_cons_succ]
  | _, [], _ :: _, h => by simp at h
  | _, _ :: _, [], h => by simp at h
theorem idx_at {xs : List Mem} {k : Nat} (hk : k < (namesM xs).length) : ∃ (h1 : k < (idx xs).length) (h2 : k < (ofL 0 xs).length) (h3 : (ofL 0 xs)[k] < (offF xs).length), (idx xs)[k] = ⟨(namesM xs)[k], (((offF xs)[(ofL 0 xs)[k]] : Nat) : Int)⟩ := by
  have h1 : k < (idx xs).length := by rw [idx_length]; exact hk
  have h2 : k < (ofL 0 xs).length := by rw [ofL_length]; exact hk
  have h3 : (ofL 0 xs)[k] < (offF xs).length := by
    have := ofL_lt 0 xs _ (List.getElem_mem h2)
    rw [offF_length]
    omega
  refine ⟨h1, h2, h3, ?_⟩
  have e := entsF_zip 0 (offF xs) xs (offF_length xs)
  have e2 : (idx xs)[k]? = (List.zipWith (fun s j => (⟨s, (((offF xs).getD (j - 0) 0 : Nat) : Int)⟩ : En)) (namesM xs) (ofL 0 xs))[k]? := by rw [← e]; rfl
  rw [List.getElem?_eq_getElem h1, List.getElem?_eq_getElem (by simp; omega), List.getElem_zipWith] at e2
  injection e2 with e2
  rw [e2, Nat.sub_zero, List.getD_eq_getElem?_getD, List.getElem?_eq_getElem h3]
  rfl
theorem Few.zfit {xs : List Mem} (_h : Few xs) : fitA (zeroE (namesM xs)) = true := fitA_iff.2 fun e he => by
  obtain ⟨s, hs, rfl⟩ := List.mem_map.1 he
  exact enOk_iff.2 ⟨(names_ok hs).1, by show (0 : Int) ≤ 0; omega, by show (0 : Int) ≤ _; omega⟩
theorem zname {xs : List Mem} {e : En} (he : e ∈ zeroE (namesM xs)) : e.name.size ≤ 255 := by
  obtain ⟨s, hs, rfl⟩ := List.mem_map.1 he
  exact (names_ok hs).2

/-- The entries when k of them have their offsets. -/
def fillE (xs : List Mem) (k : Nat) : List En := (idx xs).take k ++ (zeroE (namesM xs)).drop k
theorem fillE_zero (xs : List Mem) : fillE xs 0 = zeroE (namesM xs) := by simp [fillE]
theorem fillE_all (xs : List Mem) : fillE xs (namesM xs).length = idx xs := by
  unfold fillE
  rw [List.take_of_length_le (by rw [idx_length]; exact Nat.le_refl _), List.drop_eq_nil_of_le (by rw [zeroE_length]; exact Nat.le_refl _), List.append_nil]
theorem fillE_length {xs : List Mem} {k : Nat} (hk : k ≤ (namesM xs).length) : (fillE xs k).length = (namesM xs).length := by
  unfold fillE
  rw [List.length_append, List.length_take, List.length_drop, idx_length, zeroE_length]
  omega
theorem ecells_set : ∀ (a b : List En) (s : ByteArray) (o p : Int), (ecells (a ++ (⟨s, o⟩ :: b))).set (a.length * 2 + 1) (.int .i64 p) = ecells (a ++ (⟨s, p⟩ :: b))
  | [], b, s, o, p => rfl
  | x :: a, b, s, o, p => by
    rw [List.cons_append, List.cons_append, ecells, ecells, List.length_cons, show (a.length + 1) * 2 + 1 = (a.length * 2 + 1) + 2 by omega, ← ecells_set a b s o p]
    rfl
theorem fillE_step {xs : List Mem} {k : Nat} (hk : k < (namesM xs).length) {p : Nat} (hp : ∃ (h2 : k < (ofL 0 xs).length) (h3 : (ofL 0 xs)[k] < (offF xs).length), (offF xs)[(ofL 0 xs)[k]] = p) :
    (ecells (fillE xs k)).set (k * 2 + 1) (.int .i64 (p : Int)) = ecells (fillE xs (k + 1)) := by
  obtain ⟨h1, h2, h3, e⟩ := idx_at hk
  obtain ⟨_, _, hp⟩ := hp
  rw [hp] at e
  have hz : k < (zeroE (namesM xs)).length := by rw [zeroE_length]; exact hk
  have e1 : fillE xs k = (idx xs).take k ++ (⟨(namesM xs)[k], 0⟩ :: (zeroE (namesM xs)).drop (k + 1)) := by
    unfold fillE
    rw [List.drop_eq_getElem_cons hz]
    congr 2
    simp [zeroE]
  have e2 : fillE xs (k + 1) = (idx xs).take k ++ (⟨(namesM xs)[k], (p : Int)⟩ :: (zeroE (namesM xs)).drop (k + 1)) := by
    unfold fillE
    rw [List.take_succ_eq_append_getElem h1, e, List.append_assoc]
    rfl
  have hl : ((idx xs).take k).length = k := by rw [List.length_take]; omega
  rw [e1, e2]
  have := ecells_set ((idx xs).take k) ((zeroE (namesM xs)).drop (k + 1)) (namesM xs)[k] 0 (p : Int)
  rw [hl] at this
  exact this
/-- What the reference's Complete gives. -/
def RComp (xs : List Mem) (w : World) (e : Ending) (w' : World) : Prop :=
  ∃ vb A1 n1 c1 A2 n2 c2, e = .returned (.tuple #[vb, .slice A1 n1 c1, .slice A2 n2 c2, .int .i64 (fitL 0 xs).2]) ∧ Byt.Own w' w.heap.size vb (cOut xs).length (cOut xs) ∧
    Cel.Own 51 2 w' w.heap.size (.slice A1 n1 c1) n1 (ecells (iOut xs)) ∧ Cel.Own 3 1 w' w.heap.size (.slice A2 n2 c2) n2 (ints (oOut xs)) ∧ Below w.heap.size w w'
end Go.Proofs.YtpedngfmjhpojaaGreatDoor.Six

namespace Go.Proofs.YtpedngfmjhpojaaGreatDoor.Six
open Go.RowKit Go.Proofs Go.Proofs.YtpedngfmjhpojaaGreatDoor.Byt
open Go.Proofs.YtpedngfmjhpojaaGreatDoor.Sls (Oth)
open Go.Proofs.YtpedngfmjhpojaaGreatDoor.Arp (Mem RdM)
open Go.Proofs.YtpedngfmjhpojaaGreatDoor.Arw (fitL ints)
open Go.Proofs.YtpedngfmjhpojaaGreatDoor.Amp (En ecells encA fitA szS enOk_iff fitA_iff)

theorem ints_append (a b : List Nat) : ints (a ++ b) = ints a ++ ints b := by simp [ints]
theorem rdm_cell {w : World} {K n : Nat} {A : Option Addr} {xs : List Mem} (h : RdM w K A n xs) {k : Nat} (hk : k < xs.length) : ∃ b o : Nat, A = some ⟨b, o, none⟩ ∧ b < K ∧ w.cell? ⟨b, o + k * 6 + 5, none⟩ = some (.slice xs[k].ptr xs[k].len xs[k].cap) ∧ Byt.Rd w K xs[k].ptr xs[k].len xs[k].data := by
  obtain ⟨⟨b, o, e, hb, hc⟩, hr, _⟩ := h.2 k hk
  exact ⟨b, o, e, hb, hc.2.2.2.2.2, hr⟩
theorem int_ent : (3 : Nat) ≠ 51 := by decide
theorem ent_int : (51 : Nat) ≠ 3 := by decide
theorem str_ent : (9 : Nat) ≠ 51 := by decide
theorem str_int : (9 : Nat) ≠ 3 := by decide

set_option linter.unusedSimpArgs false in
set_option maxRecDepth 100000 in
set_option maxHeartbeats 16000000 in
theorem rcomplete_any (K : Nat) (A : Option Addr) (n c : Nat) (xs : List Mem) (w : World) (h : RdM w K A n xs) (hK : K ≤ w.heap.size) (hF : Few xs) (hcap : ∀ x ∈ xs, x.len ≤ x.cap) :
    Calls Tryz.prog 9 #[.slice A n c] w (RComp xs w) := by
  have Hl := hid h.1
  have HF := hid hF
  have hn20 : n ≤ 20 := by have := Hl.out; have := HF.out.n; omega
  go_enter Tryz.func9, Tryz.ntmps9
  go_wp2_with fail
  refine (Arw.rfits5_any K A n c xs w h hK HF.out.ok (by omega)).mono ?_
  rintro e w1 ⟨rfl, hb1⟩
  obtain ⟨z1, hz1⟩ : ∃ z1, (fitL 0 xs).1 = z1 := ⟨_, rfl⟩
  obtain ⟨z2, hz2⟩ : ∃ z2, (fitL 0 xs).2 = z2 := ⟨_, rfl⟩
  rw [hz1, hz2]
  have HZ := hid hz2
  clear hz1 hz2 hF
  by_cases hz : z2 = 0
  · have hzb : (z2 != 0) = false := by rw [hz]; rfl
    have HOk : Hid ((fitL 0 xs).2 = 0) := hid (HZ.out.trans hz)
    clear hz
    go_wp2_with fail
    go_loopw [8, 9, 10] (fun v u i W => ∃ (k j : Nat) (A1 : Option Addr) (c1 : Nat) (A2 : Option Addr) (c2 : Nat), i = .int .i64 (k : Int) ∧ k ≤ n ∧ v = .slice A1 j c1 ∧ u = .slice A2 j c2 ∧ j ≤ 1000 ∧ Cel.Own 51 2 W w.heap.size (.slice A1 j c1) j (ecells (zeroE (namesM (xs.take k)))) ∧ Cel.Own 3 1 W w.heap.size (.slice A2 j c2) j (ints (ofL 0 (xs.take k))) ∧ Below w.heap.size w W) (fun _ _ i _ => n - (intOf i).toNat)
    case atStart => exact ⟨0, 0, none, 0, none, 0, rfl, by omega, rfl, rfl, by omega, Cel.Own.nil _ _ _ _, Cel.Own.nil _ _ _ _, hb1⟩
    case round =>
      obtain ⟨k, j, A1, c1, A2, c2, rfl, hk, rfl, rfl, hj, hE, hO, hb⟩ := hrel
      by_cases hlt : k < n
      · have hkl : k < xs.length := by have := Hl.out; omega
        have hki : (k : Int) < (n : Int) := by omega
        obtain ⟨b, o, rfl, hbK, hcell, hrd⟩ := rdm_cell (h.below (hb.mono hK)) hkl
        have hxl := (HF.out.ok _ (List.getElem_mem hkl)).len
        have hxc := hcap _ (List.getElem_mem hkl)
        have HTn := hid (namesM_take hkl)
        have HTo := hid (ofL_take hkl)
        have HB : Hid ((namesM (xs.take (k + 1))).length ≤ 1000) := hid (by
          have h1 := HF.out.count
          have h2 : namesM xs = namesM (xs.take (k + 1)) ++ namesM (xs.drop (k + 1)) := by rw [← namesM_append, List.take_append_drop]
          rw [h2, List.length_append] at h1
          omega)
        have Hj : Hid (j = (namesM (xs.take k)).length) := hid (by
          have := hE.1
          rw [Amp.ecells_length, zeroE_length] at this
          omega)
        generalize xs[k] = x at *
        obtain ⟨xp, hxp⟩ : ∃ xp, x.ptr = xp := ⟨_, rfl⟩
        obtain ⟨xn, hxn⟩ : ∃ xn, x.len = xn := ⟨_, rfl⟩
        obtain ⟨xc, hxc'⟩ : ∃ xc, x.cap = xc := ⟨_, rfl⟩
        rw [hxp, hxn, hxc'] at hcell
        rw [hxp, hxn] at hrd
        rw [hxn, hxc'] at hxc
        rw [hxn] at hxl
        have HC := hid (rdefs_any K xp xn xc x.data wr hrd (Nat.le_trans hK hb.size) hxc (by omega))
        clear hxp hxn hxc' hrd hxc
        go_wp2_with fail
        refine HC.out.mono ?_
        rintro e w3 hD
        obtain ⟨A3, n3, c3, rfl, hn3, o3, r3, hc3, hm3, hb3⟩ := hD.reads
        have Hn3 := hid hn3
        have hE3 := hE.below hb3
        have hO3 := hO.below hb3
        have hbr := hb.size
        have hb03 := hb.trans (hb3.mono hbr)
        have hn3b : j + n3 ≤ 1000 := by
          have := HB.out
          rw [HTn.out, List.length_append, ← Hj.out, ← Hn3.out] at this
          exact this
        clear hD HC hE hO hcell r3 hn3 hb3 hb hxl
        go_wp2_with fail
        go_loopw [8, 9, 12] (fun v u i W => ∃ (q : Nat) (A4 : Option Addr) (c4 : Nat) (A5 : Option Addr) (c5 : Nat), i = .int .i64 (q : Int) ∧ q ≤ n3 ∧ v = .slice A4 (j + q) c4 ∧ u = .slice A5 (j + q) c5 ∧ Cel.Own 51 2 W w.heap.size (.slice A4 (j + q) c4) (j + q) (ecells (zeroE (namesM (xs.take k) ++ (defs x.data).take q))) ∧ Cel.Own 3 1 W w.heap.size (.slice A5 (j + q) c5) (j + q) (ints (ofL 0 (xs.take k) ++ List.replicate q k)) ∧ Sls.Own W wr.heap.size (.slice A3 n3 c3) n3 (defs x.data) ∧ Below w.heap.size w W) (fun _ _ i _ => n3 - (intOf i).toNat)
        case atStart => exact ⟨0, A1, c1, A2, c2, rfl, by omega, rfl, rfl, by simpa using hE3, by simpa using hO3, o3, hb03⟩
        case round =>
          obtain ⟨q, A4, c4, A5, c5, rfl, hq, rfl, rfl, hE, hO, hS, hb⟩ := hrel
          by_cases hqt : q < n3
          · have hql : q < (defs x.data).length := by have := Hn3.out; omega
            have hqi : (q : Int) < (n3 : Int) := by omega
            obtain ⟨A6, c6, e6, r6, _, _⟩ := hS.reads
            injection e6 with e61 _ e63
            subst e61 e63
            obtain ⟨b6, o6, rfl, _, hcell⟩ := r6.2 q (by rw [r6.1]; exact hqt)
            have HTs : Hid (zeroE (namesM (xs.take k) ++ (defs x.data).take (q + 1)) = zeroE (namesM (xs.take k) ++ (defs x.data).take q) ++ [⟨(defs x.data)[q], 0⟩]) := hid (by
              rw [List.take_succ_eq_append_getElem hql, ← List.append_assoc, zeroE_append]
              rfl)
            have HTr : Hid (List.replicate (q + 1) k = List.replicate q k ++ [k]) := hid List.replicate_succ'
            generalize (defs x.data)[q] = s at *
            have hs0 := hb.size
            clear r6
            go_wp2_with (first
              | (at_builtin; refine Cel.wpList_push Amp.kE wr w.heap.size (.slice A4 (j + q) c4) (j + q) _ hE hs0 1 1 #[.string s, .int .i64 0] (0, 0) rfl (by simp [Value.oneCell']) (by omega) (by omega) rfl (.tmp 49) (.tmp 55) rfl rfl rfl ?_; intro v7 w7 ho7 hb7 hoth7 _; obtain ⟨A7, c7, rfl, _⟩ := ho7.reads; have hO7 := hO.oth hoth7 int_ent; have hS7 := sown_oth hS hoth7 str_ent; have hb07 := hb.trans hb7; have hs7 := hb07.size)
              | (at_builtin; refine Cel.wpList_push Arp.kI w7 w.heap.size (.slice A5 (j + q) c5) (j + q) _ hO7 hs7 1 1 #[.int .i64 (k : Int)] (0, 0) rfl (by simp [Value.oneCell']) (by omega) (by omega) rfl (.tmp 57) (.tmp 59) rfl rfl rfl ?_; intro v8 w8 ho8 hb8 hoth8 _; obtain ⟨A8, c8, rfl, _⟩ := ho8.reads)
              | fail)
            have hE8 := ho7.oth hoth8 ent_int
            have hS8 := sown_oth hS7 hoth8 str_int
            have hb08 := hb07.trans hb8
            have hE8' : Cel.Own 51 2 w8 w.heap.size (.slice A7 (j + q + 1) c7) (j + q + 1) (ecells (zeroE (namesM (xs.take k) ++ (defs x.data).take (q + 1)))) := by
              rw [HTs.out, Amp.ecells_append]; exact hE8
            have hO8' : Cel.Own 3 1 w8 w.heap.size (.slice A8 (j + q + 1) c8) (j + q + 1) (ints (ofL 0 (xs.take k) ++ List.replicate (q + 1) k)) := by
              rw [HTr.out, ← List.append_assoc, ints_append]; exact ho8
            clear ho7 ho8 hb7 hb8 hoth7 hoth8 hE hO hS hb hO7 hS7 hE8 hb07 hcell
            go_roundw
            · exact ⟨q + 1, A7, c7, A8, c8, by go_num, by omega, rfl, rfl, hE8', hO8', hS8, hb08⟩
            · simp [intOf]; omega
          · obtain rfl : q = n3 := by omega
            have hqi : ¬ (q : Int) < (q : Int) := by omega
            have e1 : (defs x.data).take q = defs x.data := List.take_of_length_le (by have := Hn3.out; omega)
            rw [e1, ← HTn.out] at hE
            rw [Hn3.out, ← HTo.out, ← Hn3.out] at hO
            clear e1 hS
            go_wp2_with fail
            go_roundw
            · exact ⟨k + 1, j + q, A4, c4, A5, c5, by go_num, by omega, rfl, rfl, by omega, hE, hO, hb⟩
            · simp [intOf]; omega
      · obtain rfl : k = n := by omega
        have hki : ¬ (k : Int) < (k : Int) := by omega
        have hT : xs.take k = xs := List.take_of_length_le (by have := Hl.out; omega)
        rw [hT] at hE hO
        have Hj : Hid (j = (namesM xs).length) := hid (by
          have := hE.1
          rw [Amp.ecells_length, zeroE_length] at this
          omega)
        have hKw := hb.size
        have rE := Amp.rde_own hE
        clear hT
        go_wp2_with fail
        refine (Amp.rencA_any wr.heap.size A1 j c1 (zeroE (namesM xs)) wr rE (Nat.le_refl _) hj (fun e he => by have := zname he; omega)).mono ?_
        rintro e w4 hEn
        obtain ⟨A4, n4, c4, rfl, hn4, _, r4, hc4, _, hb4⟩ := hEn.ok HF.out.zfit
        have hn4b : n4 ≤ 5004 := by rw [hn4, zeroE_size]; exact HF.out.names
        have Hn4 : Hid ((encA (zeroE (namesM xs))).length = szS (namesM xs)) := hid (zeroE_size _)
        have hE4 := hE.below hb4
        have hO4 := hO.below hb4
        have hb04 := hb.trans (hb4.mono hKw)
        have hK4 := hb04.size
        have hlen4 := r4.1
        have Hmd := hid hlen4
        clear hEn hn4 rE hE hO hb hb4 hlen4
        obtain ⟨bm, hbm⟩ : ∃ bm, decide (0 < j) = bm := ⟨_, rfl⟩
        have Hbm : Hid (bm = hmF xs) := hid (by
          rw [← hbm]
          unfold hmF
          rw [← Hj.out])
        have HW := hid fun (md : List UInt8) (Am : Option Addr) (nm cm : Nat) (W : World) (rm : Byt.Rd W W.heap.size Am nm md) (hnm : nm ≤ 20000) (hbW : Below w.heap.size w W) => Arw.rwrite_any bm Am nm cm md W.heap.size K A k c xs W rm (Nat.le_refl _) hnm (h.below (hbW.mono hK)) (Nat.le_trans hK hbW.size) HF.out.ok hn20
        go_wp2_with fail
        refine (HW.out _ A4 n4 c4 w4 r4 (by omega) hb04).mono ?_
        rintro e w5 ⟨v5, A5, n5, c5, rfl, _, hof5, hb5⟩
        rw [if_pos HOk.out, Hbm.out, Hn4.out] at hof5
        have hof5' : Cel.Own 3 1 w5 w.heap.size (.slice A5 n5 c5) n5 (ints (offF xs)) := Cel.Own.more hof5 hK4
        have hE5 := hE4.below hb5
        have hO5 := hO4.below hb5
        have hb05 := hb04.trans (hb5.mono hK4)
        rw [← fillE_zero] at hE5
        have Hn5 : Hid ((offF xs).length = n5) := hid (by have := hof5'.1; simpa [ints] using this)
        clear hE4 hO4 hb04 hb5 r4 hof5 hK4 hn4b
        go_wp2_with fail
        go_loopw [18] (fun i W => ∃ q : Nat, i = .int .i64 (q : Int) ∧ q ≤ j ∧ Cel.Own 51 2 W w.heap.size (.slice A1 j c1) j (ecells (fillE xs q)) ∧ Cel.Own 3 1 W w.heap.size (.slice A2 j c2) j (ints (ofL 0 xs)) ∧ Cel.Own 3 1 W w.heap.size (.slice A5 n5 c5) n5 (ints (offF xs)) ∧ Below w.heap.size w W) (fun i _ => j - (intOf i).toNat)
        case atStart => exact ⟨0, rfl, by omega, hE5, hO5, hof5', hb05⟩
        case round =>
          obtain ⟨q, rfl, hq, hE, hO, hf, hb⟩ := hrel
          by_cases hqt : q < j
          · have hqi : (q : Int) < (j : Int) := by omega
            have hqn : q < (namesM xs).length := by have := Hj.out; omega
            obtain ⟨i1, i2, i3, i4⟩ := idx_at hqn
            clear i4
            obtain ⟨A7, c7, e7, r7, _, _⟩ := hO.reads
            injection e7 with e71 _ e73
            subst e71 e73
            obtain ⟨b7, o7, rfl, _, hc7⟩ := r7.2 q (by simp [ints]; exact i2)
            obtain ⟨A8, c8, e8, r8, _, _⟩ := hf.reads
            injection e8 with e81 _ e83
            subst e81 e83
            obtain ⟨b8, o8, rfl, _, hc8⟩ := r8.2 (ofL 0 xs)[q] (by simp [ints]; exact i3)
            have hc7' : wr.cell? ⟨b7, o7 + q, none⟩ = some (.int .i64 ((ofL 0 xs)[q] : Int)) := by rw [hc7]; simp [ints]
            have hc8' : wr.cell? ⟨b8, o8 + (ofL 0 xs)[q], none⟩ = some (.int .i64 ((offF xs)[(ofL 0 xs)[q]] : Int)) := by rw [hc8]; simp [ints]
            have hpi : ((ofL 0 xs)[q] : Int) < (n5 : Int) := by have := Hn5.out; omega
            have hstep := hid (fillE_step hqn (p := (offF xs)[(ofL 0 xs)[q]]) ⟨i2, i3, rfl⟩)
            obtain ⟨g, cg, cur, mg, eg, hgK, hgrow, hgc, hgf, hgset⟩ := hE.at_ (j := q * 2 + 1) (by rw [Amp.ecells_length, fillE_length (by omega)]; omega)
            injection eg with eg1 _ eg3
            subst eg1 eg3
            obtain ⟨gv, hgv⟩ : ∃ gv, wr.cell? ⟨g, q * 2 + 1, none⟩ = some gv := ⟨_, hgc⟩
            clear hgc
            generalize (offF xs)[(ofL 0 xs)[q]] = op at *
            generalize (ofL 0 xs)[q] = p at *
            have hE2 := hgset (.int .i64 (op : Int))
            rw [hstep.out] at hE2
            have hO2 := Cel.Own.setc hO hgrow int_ent (q * 2 + 1) (.int .i64 (op : Int))
            have hf2 := Cel.Own.setc hf hgrow int_ent (q * 2 + 1) (.int .i64 (op : Int))
            have hb2 := hb.setCell (p := ⟨g, q * 2 + 1, none⟩) hgK (.int .i64 (op : Int))
            clear hc7 hc8 r7 r8 hgset hgrow hE hO hf hb hstep i1 i2 i3
            go_wp2_with fail
            go_roundw
            · exact ⟨q + 1, by go_num, by omega, hE2, hO2, hf2, hb2⟩
            · simp [intOf]; omega
          · obtain rfl : q = j := by omega
            have hqi : ¬ (q : Int) < (q : Int) := by omega
            rw [Hj.out, fillE_all, ← Hj.out] at hE
            have rE := Amp.rde_own hE
            have hKw := hb.size
            clear hO
            go_wp2_with fail
            refine (Amp.rencA_any wr.heap.size A1 q c1 (idx xs) wr rE (Nat.le_refl _) hj (fun e he => by have := Few.idx_name he; omega)).mono ?_
            rintro e w6 hEn
            obtain ⟨A6, n6, c6, rfl, hn6, _, r6, hc6, _, hb6⟩ := hEn.ok HF.out.fit
            have hn6b : n6 ≤ 5004 := by rw [hn6, idx_size]; exact HF.out.names
            have hE6 := hE.below hb6
            have hf6 := hf.below hb6
            have hb06 := hb.trans (hb6.mono hKw)
            have hK6 := hb06.size
            clear hEn hn6 rE hE hf hb hb6
            go_wp2_with fail
            refine (HW.out _ A6 n6 c6 w6 r6 (by omega) hb06).mono ?_
            rintro e w7 ⟨v7, A7, n7, c7, rfl, ho7, _, hb7⟩
            have hE7 := hE6.below hb7
            have hf7 := hf6.below hb7
            have hb07 := hb06.trans (hb7.mono hK6)
            have ew : Arw.wout bm (encA (idx xs)) xs = cOut xs := by rw [Hbm.out]; rfl
            rw [ew] at ho7
            have ho7' := hid (ho7.more (K' := w.heap.size) hK6)
            clear ho7 hE6 hf6 hb7 hb06 r6 ew
            go_wp2_with fail
            refine bodyPost_ret (v := .tuple #[v7, .slice A1 q c1, .slice A5 n5 c5, .int .i64 0]) (by simp [results, Tryz.results9, asAddr]) rfl ⟨v7, A1, q, c1, A5, n5, c5, by rw [HOk.out], ho7'.out, ?_, ?_, hb07⟩
            · rw [show iOut xs = idx xs from if_pos HOk.out]; exact hE7
            · rw [show oOut xs = offF xs from if_pos HOk.out]; exact hf7
  · have hzb : (z2 != 0) = true := by simp [hz]
    have HN : Hid (¬ (fitL 0 xs).2 = 0) := hid (by rw [HZ.out]; exact hz)
    clear hz
    go_wp2_with fail
    refine bodyPost_ret (v := .tuple #[.slice none 0 0, .slice none 0 0, .slice none 0 0, .int .i64 z2]) (by simp [results, Tryz.results9, asAddr]) rfl ⟨_, none, 0, 0, none, 0, 0, by rw [HZ.out], ?_, ?_, ?_, hb1⟩
    · rw [show cOut xs = [] from if_neg HN.out]; exact Byt.Own.nil _ _
    · rw [show iOut xs = [] from if_neg HN.out]; exact Cel.Own.nil _ _ _ _
    · rw [show oOut xs = [] from if_neg HN.out]; exact Cel.Own.nil _ _ _ _
end Go.Proofs.YtpedngfmjhpojaaGreatDoor.Six
