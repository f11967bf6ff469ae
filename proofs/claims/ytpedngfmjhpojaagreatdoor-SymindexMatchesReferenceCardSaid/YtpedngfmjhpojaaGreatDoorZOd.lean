/-
  objsym: appending numbers and symbols; Valid, Encode, Find.
  objsym: Encode and Find.
  objsym: the reader.
-/
import Derived.Test.YtpedngfmjhpojaaGreatDoorZOb
import Derived.OwnWalk
import Derived.Recover
import Derived.DefersIn
import Derived.WalkLawsBesides
namespace Go.Proofs.YtpedngfmjhpojaaGreatDoor.Obj
open Go.RowKit Go.Proofs Go.Proofs.YtpedngfmjhpojaaGreatDoor.Byt
open Go.Proofs.YtpedngfmjhpojaaGreatDoor.Sls (Oth)

/-- The four cells of a symbol. -/
def SCells (w : World) (b o : Nat) (x : Sy) : Prop :=
  w.cell? ⟨b, o, none⟩ = some (.string x.name) ∧ w.cell? ⟨b, o + 1, none⟩ = some (.int .i64 x.bind) ∧ w.cell? ⟨b, o + 2, none⟩ = some (.int .i64 x.size) ∧ w.cell? ⟨b, o + 3, none⟩ = some (.int .i64 x.align)
theorem SCells.below {w w' : World} {K b o : Nat} {x : Sy} (h : SCells w b o x) (hb : Below K w w') (hl : b < K) : SCells w' b o x := by
  obtain ⟨h0, h1, h2, h3⟩ := h
  exact ⟨by rw [hb.cell (p := ⟨b, o, none⟩) hl]; exact h0, by rw [hb.cell (p := ⟨b, o + 1, none⟩) hl]; exact h1, by rw [hb.cell (p := ⟨b, o + 2, none⟩) hl]; exact h2, by rw [hb.cell (p := ⟨b, o + 3, none⟩) hl]; exact h3⟩
/-- A slice of symbols that reads as a list, below block K. -/
def RdS (w : World) (K : Nat) (A : Option Addr) (n : Nat) (xs : List Sy) : Prop :=
  xs.length = n ∧ ∀ k (h : k < xs.length), (∃ b o : Nat, A = some ⟨b, o, none⟩ ∧ b < K ∧ SCells w b (o + k * 4) xs[k]) ∧ xs[k].name.size ≤ maxLen
theorem RdS.below {w w' : World} {K n : Nat} {A : Option Addr} {xs : List Sy} (h : RdS w K A n xs) (hb : Below K w w') : RdS w' K A n xs :=
  ⟨h.1, fun k hk => by
    obtain ⟨⟨b, o, e, hl, hc⟩, hn⟩ := h.2 k hk
    exact ⟨⟨b, o, e, hl, hc.below hb hl⟩, hn⟩⟩
theorem RdS.more {w : World} {K K' n : Nat} {A : Option Addr} {xs : List Sy} (h : RdS w K A n xs) (hK : K ≤ K') : RdS w K' A n xs :=
  ⟨h.1, fun k hk => by
    obtain ⟨⟨b, o, e, hl, hc⟩, hn⟩ := h.2 k hk
    exact ⟨⟨b, o, e, by omega, hc⟩, hn⟩⟩
theorem RdS.nil (w : World) (K : Nat) (A : Option Addr) : RdS w K A 0 [] := ⟨rfl, fun k hk => absurd hk (by simp)⟩
theorem RdS.pre {w : World} {K n m : Nat} {A : Option Addr} {xs : List Sy} (h : RdS w K A n xs) (hm : m ≤ n) : RdS w K A m (xs.take m) := by
  refine ⟨by rw [List.length_take, h.1]; omega, fun k hk => ?_⟩
  rw [List.length_take] at hk
  rw [List.getElem_take]
  exact h.2 k (by omega)
theorem rds_of {w : World} {K n : Nat} {A : Option Addr} {xs : List Sy} (h : Cel.Rd w K A n 4 (scells xs)) (hd : ∀ x ∈ xs, x.name.size ≤ maxLen) : RdS w K A n xs := by
  have hl := h.1
  rw [scells_length] at hl
  refine ⟨by omega, fun k hk => ⟨?_, hd _ (List.getElem_mem hk)⟩⟩
  have hc : ∀ j, j < 4 → ∃ b o : Nat, A = some ⟨b, o, none⟩ ∧ b < K ∧ ∃ v, (scells xs)[k * 4 + j]? = some v ∧ w.cell? ⟨b, o + (k * 4 + j), none⟩ = some v := fun j hj => by
    have hkl : k * 4 + j < (scells xs).length := by rw [scells_length]; omega
    obtain ⟨b, o, e, hb, hc⟩ := h.2 (k * 4 + j) hkl
    exact ⟨b, o, e, hb, _, List.getElem?_eq_getElem hkl, hc⟩
  obtain ⟨m0, m1, m2, m3⟩ := scells_at xs k hk
  obtain ⟨b, o, rfl, hb, v, hv, hc0⟩ := hc 0 (by omega)
  have hcj : ∀ j, j < 4 → ∀ u, (scells xs)[k * 4 + j]? = some u → w.cell? ⟨b, o + k * 4 + j, none⟩ = some u := fun j hj u hu => by
    obtain ⟨b', o', e, _, v, hv, hc⟩ := hc j hj
    injection e with e
    injection e with e1 e2
    subst e1 e2
    rw [hv] at hu
    injection hu with hu
    rw [← hu, ← hc]
    congr 2
    omega
  exact ⟨b, o, rfl, hb, hcj 0 (by omega) _ m0, hcj 1 (by omega) _ m1, hcj 2 (by omega) _ m2, hcj 3 (by omega) _ m3⟩

theorem goodL_step {xs : List Sy} {k : Nat} (hk : k < xs.length) : goodL (xs.take k) (xs.drop k) = (!has (xs.take k) xs[k].name && symOk xs[k] && goodL (xs.take (k + 1)) (xs.drop (k + 1))) := by
  rw [List.drop_eq_getElem_cons hk, goodL, List.take_add_one, List.getElem?_eq_getElem hk]
  rfl

end Go.Proofs.YtpedngfmjhpojaaGreatDoor.Obj

namespace Go.Proofs.YtpedngfmjhpojaaGreatDoor.Obj
open Go.RowKit Go.Proofs Go.Proofs.YtpedngfmjhpojaaGreatDoor.Byt
open Go.Proofs.YtpedngfmjhpojaaGreatDoor.Sls (Oth)

/-- A literal's bytes are the call's own. -/
theorem Own.const (w : World) (K n : Nat) (l : List UInt8) (cs : Array Value) (h : cs = (enc l).toArray) (hl : l.length = n) (hK : K ≤ w.heap.size) (hn : n ≤ 1000000) :
    Byt.Own (w.alloc (.cells cs 5 (n, n + 1))) K (.slice (some ⟨w.heap.size, 0, none⟩) n n) n l := by
  subst h
  refine ⟨hl, .inr ⟨w.heap.size, n, _, (n, n + 1), rfl, hK, heap_alloc_new w _, Nat.le_refl _, by unfold maxLen; omega, by simp [enc_length, hl], ?_, fun j hj => by simp only; omega⟩⟩
  rw [List.take_of_length_le (by simp [enc_length, hl])]

theorem encL_append (a b : List Sy) : encL (a ++ b) = encL a ++ encL b := by simp [encL]
theorem encL_len : ∀ xs : List Sy, (∀ x ∈ xs, symOk x = true) → (encL xs).length ≤ 265 * xs.length
  | [], _ => by simp [encL]
  | x :: r, h => by
    have h1 := encL_len r fun y hy => h y (by simp [hy])
    have h2 := nameOk_range (by have := h x (by simp); unfold symOk at this; rw [Bool.and_eq_true] at this; exact this.1)
    have e : encL (x :: r) = encS x ++ encL r := by simp [encL]
    rw [e, List.length_append, encS_length, List.length_cons]
    omega
theorem goodL_all : ∀ {xs seen : List Sy}, goodL seen xs = true → ∀ x ∈ xs, symOk x = true
  | [], _, _, x, hx => by simp at hx
  | y :: r, seen, h, x, hx => by
    unfold goodL at h
    rw [Bool.and_eq_true, Bool.and_eq_true] at h
    rcases List.mem_cons.1 hx with rfl | hx
    · exact h.1.2
    · exact goodL_all h.2 x hx

/-- What Encode gives. -/
def Encodes (xs : List Sy) (body : List UInt8) (w : World) (e : Ending) (w' : World) : Prop :=
  Below w.heap.size w w' ∧ ((validO xs = true ∧ ∃ v n, e = .returned (.tuple #[v, .int .i64 0]) ∧ Byt.Own w' w.heap.size v n (encO xs body)) ∨ (validO xs = false ∧ e = .returned (.tuple #[.slice none 0 0, .int .i64 12])))

def findS : List Sy → ByteArray → Sy
  | [], _ => ⟨⟨#[]⟩, 0, 0, 0⟩
  | x :: r, s => if x.name = s then x else findS r s
theorem str_eq {u v : ByteArray} : (u.toList = v.toList) ↔ u = v := by
  constructor
  · intro h
    rw [Lib.toList_data, Lib.toList_data] at h
    rw [← str_of u, ← str_of v, h]
  · exact fun h => by rw [h]
theorem find_step {xs : List Sy} {k : Nat} (hk : k < xs.length) (s : ByteArray) :
    (xs[k].name = s → has (xs.drop k) s = true ∧ findS (xs.drop k) s = xs[k]) ∧ (xs[k].name ≠ s → has (xs.drop k) s = has (xs.drop (k + 1)) s ∧ findS (xs.drop k) s = findS (xs.drop (k + 1)) s) := by
  rw [List.drop_eq_getElem_cons hk]
  generalize xs.drop (k + 1) = r
  generalize xs[k] = x
  refine ⟨fun h => ⟨by simp [has, h], by simp [findS, h]⟩, fun h => ⟨by simp [has, h], by simp [findS, h]⟩⟩

/-- A variable of four cells, set. -/
def put4 (W : World) (B : Nat) (v0 v1 v2 v3 : Value) : World := (((W.setCell ⟨B, 0, none⟩ v0).setCell ⟨B, 1, none⟩ v1).setCell ⟨B, 2, none⟩ v2).setCell ⟨B, 3, none⟩ v3
theorem put4_row {W : World} {B : Nat} {a b c d : Value} {t : TypeId} (h : W.heap[B]? = some (.cells #[a, b, c, d] t (0, 0))) (v0 v1 v2 v3 : Value) : (put4 W B v0 v1 v2 v3).heap[B]? = some (.cells #[v0, v1, v2, v3] t (0, 0)) :=
  heap_setCell_same _ B 3 _ _ v3 (heap_setCell_same _ B 2 _ _ v2 (heap_setCell_same _ B 1 _ _ v1 (heap_setCell_same W B 0 _ _ v0 h)))
theorem put4_below {w W : World} {K B : Nat} (h : Below K w W) (hB : K ≤ B) (v0 v1 v2 v3 : Value) : Below K w (put4 W B v0 v1 v2 v3) :=
  (((h.setCell (p := ⟨B, 0, none⟩) hB v0).setCell (p := ⟨B, 1, none⟩) hB v1).setCell (p := ⟨B, 2, none⟩) hB v2).setCell (p := ⟨B, 3, none⟩) hB v3
theorem load4 (w : World) (B : Nat) (cs : Array Value) (h : w.heap[B]? = some (.cells cs 58 (0, 0))) (hs : cs.size = 4) :
    (loadVar 58 ⟨B, 0, none⟩).run Tryz.prog w = .ok (.agg cs) w :=
  run_loadVar_row w B 58 58 cs (0, 0) _ h Tryz.underlying58 rfl (by rw [hs]; kernel_rfl)

end Go.Proofs.YtpedngfmjhpojaaGreatDoor.Obj

namespace Go.Proofs.YtpedngfmjhpojaaGreatDoor.Obj
open Go.RowKit Go.Proofs Go.Proofs.YtpedngfmjhpojaaGreatDoor.Byt
open Go.Proofs.YtpedngfmjhpojaaGreatDoor.Sls (Oth)

/-- The panic with an error number. -/
def fails (k : Int) : Ending := .panicked [{ v := .iface 30 (.int .i64 k), recovered := false }]

/-- The reader at block R has these bytes left. -/
def Rdr (w : World) (R K : Nat) (l : List UInt8) : Prop :=
  ∃ b o m c, w.heap[R]? = some (.cells #[.slice (some ⟨b, o, none⟩) m c] 123 (0, 0)) ∧ Byt.Rd w K (some ⟨b, o, none⟩) m l ∧ m ≤ c ∧ c ≤ maxLen

set_option maxRecDepth 100000 in
theorem take_fail (w : World) (R K : Nat) (l : List UInt8) (h : Rdr w R K l) (n : Nat) (hn : l.length < n) :
    Calls Tryz.prog 88 #[.pointer (some ⟨R, 0, none⟩), .int .i64 (n : Int)] w fun e w' => e = fails 2 ∧ w' = w := by
  obtain ⟨b, o, m, c, hrow, hr, hmc, hc⟩ := h
  have hni : (m : Int) < (n : Int) := by have := hr.1; omega
  have c0 := cell_of_row _ R 0 _ _ _ hrow
  unfold fails
  go_enter Tryz.func88, Tryz.ntmps88
  go_wp2_with fail
  exact ⟨rfl, rfl, rfl⟩

theorem slice_from (w : World) (K b o m c n : Nat) (l : List UInt8) (hr : Byt.Rd w K (some ⟨b, o, none⟩) m l) (hn : n ≤ m) (hmc : m ≤ c) :
    ∃ p, (Instr.sliceAt 23 (.slice (some ⟨b, o, none⟩) m c) (some (.int .i64 (n : Int))) none none).run Tryz.prog w = .ok (.slice (some ⟨b, p, none⟩) (m - n) (c - n)) w ∧ Byt.Rd w K (some ⟨b, p, none⟩) (m - n) (l.drop n) := by
  have h1 : (n : Int) ≤ (m : Int) := by omega
  have h2 : (m : Int) ≤ (c : Int) := by omega
  have h3 : (n : Int) ≤ (c : Int) := by omega
  by_cases hc : c = n
  · subst hc
    obtain rfl : m = c := by omega
    exact ⟨o, by go_simp, hr.cut_at m (Nat.le_refl _)⟩
  · exact ⟨o + n, by go_simp, hr.cut n⟩

set_option maxRecDepth 100000 in
theorem take_ok (w : World) (R K : Nat) (l : List UInt8) (h : Rdr w R K l) (hKR : K ≤ R) (n : Nat) (hn : n ≤ l.length) :
    Calls Tryz.prog 88 #[.pointer (some ⟨R, 0, none⟩), .int .i64 (n : Int)] w fun e w' => ∃ b o c, e = .returned (.slice (some ⟨b, o, none⟩) n c) ∧ Byt.Rd w' K (some ⟨b, o, none⟩) n (l.take n) ∧ n ≤ c ∧ Rdr w' R K (l.drop n) ∧ w.grownBy w' (some R) := by
  obtain ⟨b, o, m, c, hrow, hr, hmc, hc⟩ := h
  have hnm : n ≤ m := by have := hr.1; omega
  have hni : ¬ (m : Int) < (n : Int) := by omega
  have hnc : (n : Int) ≤ (c : Int) := by omega
  have c0 := cell_of_row _ R 0 _ _ _ hrow
  have f0 := fun o => frozen_of_row w R o _ _ hrow
  obtain ⟨p, hrun, hrd⟩ := slice_from w K b o m c n l hr hnm hmc
  have hb : Below K w (w.setCell ⟨R, 0, none⟩ (.slice (some ⟨b, p, none⟩) (m - n) (c - n))) := (Below.refl K w).setCell (p := ⟨R, 0, none⟩) hKR _
  have hg : w.grownBy (w.setCell ⟨R, 0, none⟩ (.slice (some ⟨b, p, none⟩) (m - n) (c - n))) (some R) := ⟨rfl, rfl, rfl, by simp, fun k hk hne => Below.heap_setCell w ⟨R, 0, none⟩ _ k (fun q => hne (by rw [q]))⟩
  have Hrd := hid hrd
  go_enter Tryz.func88, Tryz.ntmps88
  go_wp2_with fail
  go_ret
  exact ⟨b, o, c, rfl, (hr.pre hnm).below hb, by omega, ⟨b, p, m - n, c - n, heap_setCell_same w R 0 _ _ _ hrow, Hrd.out.below hb, by omega, by omega⟩, hg⟩

set_option maxRecDepth 100000 in
theorem readByte_fail (w : World) (R K : Nat) (l : List UInt8) (h : Rdr w R K l) (hn : l.length < 1) :
    Calls Tryz.prog 111 #[.pointer (some ⟨R, 0, none⟩)] w fun e w' => e = fails 2 ∧ w' = w := by
  have H := hid (take_fail w R K l h 1 hn)
  go_enter Tryz.func111, Tryz.ntmps111
  go_wp2_with fail
  refine H.out.mono ?_
  rintro e w1 ⟨rfl, rfl⟩
  exact ⟨rfl, rfl, rfl⟩

set_option maxRecDepth 100000 in
theorem readByte_ok (w : World) (R K : Nat) (l : List UInt8) (h : Rdr w R K l) (hKR : K ≤ R) (hn : 1 ≤ l.length) :
    Calls Tryz.prog 111 #[.pointer (some ⟨R, 0, none⟩)] w fun e w' => e = .returned (.int .i64 ((l.getD 0 0).toNat : Int)) ∧ Rdr w' R K (l.drop 1) ∧ w.grownBy w' (some R) := by
  have H := hid (take_ok w R K l h hKR 1 hn)
  go_enter Tryz.func111, Tryz.ntmps111
  go_wp2_with fail
  refine H.out.mono ?_
  rintro e w1 ⟨b, o, c, rfl, hr, hc, hR, hg⟩
  obtain ⟨b', o', e', hbl, hcell⟩ := hr.2 0 (by rw [List.length_take]; omega)
  injection e' with e'
  injection e' with e1 e2
  subst e1 e2
  have hget : (l.take 1)[0]'(by rw [List.length_take]; omega) = l.getD 0 0 := by
    rw [List.getElem_take, List.getD_eq_getElem?_getD, List.getElem?_eq_getElem (by omega)]
    rfl
  rw [hget, Nat.add_zero] at hcell
  obtain ⟨u, hu⟩ : ∃ u, l.getD 0 0 = u := ⟨_, rfl⟩
  rw [hu] at hcell
  have HU := hid hu
  have hul := u.toNat_lt
  clear hget hr hu
  go_wp2_with fail
  go_ret
  exact ⟨by rw [HU.out]; rfl, hR, hg⟩

theorem or_digit (a d : Nat) (hd : d < 256) : a * 256 ||| d = a * 256 + d := by
  have := Nat.two_pow_add_eq_or_of_lt (i := 8) hd a
  rw [show (2 : Nat) ^ 8 = 256 from rfl, Nat.mul_comm] at this
  exact this.symm

set_option maxRecDepth 100000 in
theorem readNumber_fail (w : World) (R K : Nat) (l : List UInt8) (h : Rdr w R K l) (hn : l.length < 4) :
    Calls Tryz.prog 89 #[.pointer (some ⟨R, 0, none⟩)] w fun e w' => e = fails 2 ∧ w' = w := by
  have H := hid (take_fail w R K l h 4 hn)
  go_enter Tryz.func89, Tryz.ntmps89
  go_wp2_with fail
  refine H.out.mono ?_
  rintro e w1 ⟨rfl, rfl⟩
  exact ⟨rfl, rfl, rfl⟩

set_option maxRecDepth 100000 in
set_option maxHeartbeats 1000000 in
theorem readNumber_ok (w : World) (R K : Nat) (l : List UInt8) (h : Rdr w R K l) (hKR : K ≤ R) (hn : 4 ≤ l.length) :
    Calls Tryz.prog 89 #[.pointer (some ⟨R, 0, none⟩)] w fun e w' => e = .returned (.int .i64 (n4 l : Int)) ∧ Rdr w' R K (l.drop 4) ∧ w.grownBy w' (some R) := by
  have H := hid (take_ok w R K l h hKR 4 hn)
  go_enter Tryz.func89, Tryz.ntmps89
  go_wp2_with fail
  refine H.out.mono ?_
  rintro e w1 ⟨b, o, c, rfl, hr, hc, hR, hg⟩
  have hl4 : (l.take 4).length = 4 := by rw [List.length_take]; omega
  have HN : Hid (n4 l = (l.take 4).foldl (fun n c => n * 256 + c.toNat) 0) := hid rfl
  generalize l.take 4 = t at *
  go_wp2_with fail
  go_loopw [3, 9] (fun v i W => ∃ k : Nat, i = .int .i64 (k : Int) ∧ k ≤ 4 ∧ v = .int .i64 (((t.take k).foldl (fun n c => n * 256 + c.toNat) 0 : Nat) : Int) ∧ W = w1) (fun _ i _ => 4 - (intOf i).toNat)
  case atStart => exact ⟨0, rfl, by omega, rfl, rfl⟩
  case round =>
    obtain ⟨k, rfl, hk, rfl, rfl⟩ := hrel
    by_cases hlt : k < 4
    · obtain ⟨b', o', e', hbl, hcell⟩ := hr.2 k (by omega)
      injection e' with e'
      injection e' with e1 e2
      subst e1 e2
      have hsmall : (t.take k).foldl (fun n c => n * 256 + c.toNat) 0 < 16777216 := by
        match t, hl4 with
        | [a0, a1, a2, a3], _ =>
          have := a0.toNat_lt; have := a1.toNat_lt; have := a2.toNat_lt
          rcases (by omega : k = 0 ∨ k = 1 ∨ k = 2 ∨ k = 3) with rfl | rfl | rfl | rfl
          all_goals simp
          all_goals omega
      have Hstep : Hid ((t.take (k + 1)).foldl (fun n c => n * 256 + c.toNat) 0 = (t.take k).foldl (fun n c => n * 256 + c.toNat) 0 * 256 + (t[k]'(by omega)).toNat) := hid (by rw [List.take_add_one, List.getElem?_eq_getElem (by omega), List.foldl_append]; rfl)
      have hu := (t[k]'(by omega)).toNat_lt
      generalize t[k]'(by omega) = u at *
      generalize (t.take k).foldl (fun n c => n * 256 + c.toNat) 0 = q at *
      have hor : Hid (bits .or .i64 ((q : Int) * 256) (u.toNat : Int) = ((q * 256 + u.toNat : Nat) : Int)) := hid <| by
        rw [show ((q : Int) * 256) = ((q * 256 : Nat) : Int) by omega, bits_or_nat _ _ (by omega) (by omega), or_digit _ _ (by omega)]
      go_wp2_with fail
      go_roundw
      · skip
        exact ⟨k + 1, by go_num, by omega, by rw [hor.out, Hstep.out], trivial⟩
      · simp [intOf]; omega
    · obtain rfl : k = 4 := by omega
      have hall : t.take 4 = t := List.take_of_length_le (by omega)
      rw [hall, ← HN.out]
      clear hall
      go_wp2_with fail
      go_ret
      exact ⟨rfl, hR, hg⟩
end Go.Proofs.YtpedngfmjhpojaaGreatDoor.Obj
