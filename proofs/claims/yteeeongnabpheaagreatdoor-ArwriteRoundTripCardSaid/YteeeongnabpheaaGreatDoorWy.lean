/-
  What was parsed from any bytes can be written (mathematics).
-/
import Derived.Test.YteeeongnabpheaaGreatDoorWr
import Derived.Test.YteeeongnabpheaaGreatDoorWp
namespace Go.Proofs.YteeeongnabpheaaGreatDoor.Arw
open Go.RowKit Go.Proofs Go.Proofs.YteeeongnabpheaaGreatDoor.Byt Go.Proofs.YteeeongnabpheaaGreatDoor.Dec Go.Proofs.YteeeongnabpheaaGreatDoor.Lnm Go.Proofs.YteeeongnabpheaaGreatDoor.Hdr Go.Proofs.YteeeongnabpheaaGreatDoor.Arp

theorem okF_false {tab : Bool} {k : Nat} {n : Int} (h : okF tab k n = true) : okF false k n = true := by
  unfold okF at h ⊢
  rw [if_neg (by simp)]
  split at h
  · have h0 : n = 0 := by simpa using h
    subst h0
    have h1 : nd (bs k) 0 = 1 := nd_small (by have := (bs_2 k).1; omega)
    have h2 := (wd_18 k).1
    simp [h1, h2]
  · exact h
theorem dnum_ok {l : List UInt8} (h : derr l = 0) {k : Nat} (hk : k < 5) : okF false k (dnum l k) = true := by
  obtain ⟨hl, _, _, hr⟩ := derr_ok h
  obtain ⟨x, hx⟩ := allRd_at 5 hk hr
  have h1 := (fldF_rdF (part_length hl k hk) hx).1
  have h2 : dnum l k = (x : Int) := by
    unfold dnum
    rw [if_pos h, hx]
    rfl
  rw [h2]
  exact okF_false h1
theorem allOk_five {s : ByteArray} {f : Nat → Int} (hs : isTab s = false) (h : ∀ k, k < 5 → okF false k (f k) = true) : ∀ k, k ≤ 5 → allOk s f k = true
  | 0, _ => rfl
  | k + 1, hk => by
    unfold allOk
    rw [allOk_five hs h k (by omega), hs, h k (by omega)]
    rfl
/-- A member that was parsed fits. -/
theorem fits_parsed {l : List UInt8} {t : St} {k : Nat} (h : ar l = (t, k, 0)) {xs : List Mem} (hx : xs.map Mem.pure = t.mems) (hl : ∀ x ∈ xs, x.len = x.data.length) : ∀ x ∈ xs, fitsM x = 0 ∧ x.name.size ≤ 255 ∧ x.time < 9223372036854775808 ∧ x.uid < 9223372036854775808 ∧ x.gid < 9223372036854775808 ∧ x.mode < 9223372036854775808 := fun x hm => by
  obtain ⟨_, _, hf, _⟩ := ar_fit h
  obtain ⟨i, hi, rfl⟩ := List.mem_iff_getElem.1 hm
  have hp : t.mems[i]? = some xs[i].pure := by rw [← hx, List.getElem?_map, List.getElem?_eq_getElem hi]; rfl
  obtain ⟨p, _, _, hpe, _, q0, q1, q2, q3, q4, q5⟩ := hf i _ hp
  have hd := (perr_ok hpe).1
  have hlen := hl xs[i] hm
  have hz : (xs[i].len : Int) = dnum (l.drop p) 4 := by
    rw [hlen, show xs[i].data = pdata (l.drop p) from q4, pdata_length hpe, psz_int]
  have hok : ∀ k, k < 5 → okF false k (num xs[i].time xs[i].uid xs[i].gid xs[i].mode (xs[i].len : Int) k) = true := fun k hk => by
    have hk' : k = 0 ∨ k = 1 ∨ k = 2 ∨ k = 3 ∨ k = 4 := by omega
    rcases hk' with rfl | rfl | rfl | rfl | rfl
    · show okF false 0 xs[i].time = true
      rw [show xs[i].time = dnum (l.drop p) 0 from q0]; exact dnum_ok hd (by omega)
    · show okF false 1 xs[i].uid = true
      rw [show xs[i].uid = dnum (l.drop p) 1 from q1]; exact dnum_ok hd (by omega)
    · show okF false 2 xs[i].gid = true
      rw [show xs[i].gid = dnum (l.drop p) 2 from q2]; exact dnum_ok hd (by omega)
    · show okF false 3 xs[i].mode = true
      rw [show xs[i].mode = dnum (l.drop p) 3 from q3]; exact dnum_ok hd (by omega)
    · show okF false 4 (xs[i].len : Int) = true
      rw [hz]; exact dnum_ok hd (by omega)
  have n1 : nameOk ⟨#[47, 48]⟩ = true := by decide +kernel
  have n2 : isTab ⟨#[47, 48]⟩ = false := by decide +kernel
  have b0 := dnum_lt (l.drop p) 0 (by omega)
  have b1 := dnum_lt (l.drop p) 1 (by omega)
  have b2 := dnum_lt (l.drop p) 2 (by omega)
  have b3 := dnum_lt (l.drop p) 3 (by omega)
  have e0 : xs[i].time = dnum (l.drop p) 0 := q0
  have e1 : xs[i].uid = dnum (l.drop p) 1 := q1
  have e2 : xs[i].gid = dnum (l.drop p) 2 := q2
  have e3 : xs[i].mode = dnum (l.drop p) 3 := q3
  refine ⟨?_, (vld_size q5).2, by omega, by omega, by omega, by omega⟩
  unfold fitsM
  rw [if_pos (show vld (bts xs[i].name) = true from q5)]
  exact (eerr_0 n1 (allOk_five n2 hok 5 (Nat.le_refl _))).1
/-- What holds of what was read stays. -/
theorem go_holds {P : St → Prop} (hP : ∀ s a l, P s → P (stepS s a l)) : ∀ (k : Nat) (s : St) (a : Nat) (l : List UInt8) (t : St) (b : Nat), l.length ≤ k → P s → go s a l = (t, b, 0) → P t := by
  intro k
  induction k with
  | zero =>
    intro s a l t b hk hs h
    have : l = [] := List.eq_nil_of_length_eq_zero (by omega)
    subst this
    rw [go_nil] at h
    injection h with h _
    exact h ▸ hs
  | succ k ih =>
    intro s a l t b hk hs h
    by_cases h0 : l = []
    · subst h0
      rw [go_nil] at h
      injection h with h _
      exact h ▸ hs
    · by_cases he : stepE s l = 0
      · rw [go_on h0 he] at h
        have h1 := plen_pos l
        have h2 : 0 < l.length := List.length_pos_iff.2 h0
        exact ih _ _ _ t b (by rw [List.length_drop]; omega) (hP s a l hs) h
      · rw [go_bad h0 he] at h
        injection h with _ h
        injection h with _ h
        exact absurd h he
/-- Without a map there are no bytes of it. -/
theorem ar_nomap {l : List UInt8} {t : St} {k : Nat} (h : ar l = (t, k, 0)) : t.hasMap = false → t.map = [] := by
  obtain ⟨_, h8, _, _⟩ := ar_fit h
  cases hi : isAr l
  · rw [ar_1 h8 hi] at h
    injection h with _ h
    injection h with _ h
    exact absurd h (by decide)
  · rw [ar_go hi] at h
    refine go_holds (P := fun s => s.hasMap = false → s.map = []) (fun s a l hs => ?_) _ _ _ _ _ _ (Nat.le_refl _) (fun _ => rfl) h
    unfold stepS
    split
    · intro q; cases q
    · split
      · exact hs
      · exact hs
theorem pure_core : ∀ {xs ys : List Mem}, xs.map Mem.pure = ys.map Mem.pure → (∀ x ∈ xs, x.len = x.data.length) → (∀ y ∈ ys, y.len = y.data.length) → xs.map core = ys.map core
  | [], [], _, _, _ => rfl
  | [], _ :: _, h, _, _ => by simp at h
  | _ :: _, [], h, _, _ => by simp at h
  | x :: r, y :: s, h, hx, hy => by
    simp only [List.map_cons, List.cons.injEq] at h
    rw [List.map_cons, List.map_cons, pure_core h.2 (fun z hz => hx z (List.mem_cons_of_mem _ hz)) (fun z hz => hy z (List.mem_cons_of_mem _ hz))]
    congr 1
    have h1 := hx x List.mem_cons_self
    have h2 := hy y List.mem_cons_self
    obtain ⟨x0, x1, x2, x3, x4, x5, x6, x7, x8⟩ := x
    obtain ⟨y0, y1, y2, y3, y4, y5, y6, y7, y8⟩ := y
    simp only [Mem.pure, Pm.mk.injEq] at h
    obtain ⟨⟨rfl, rfl, rfl, rfl, rfl, rfl⟩, _⟩ := h
    simp only at h1 h2
    subst h1 h2
    rfl
end Go.Proofs.YteeeongnabpheaaGreatDoor.Arw
