/-
  armap: bytes.Cut at a zero byte; splitting a name off.
-/
import Derived.Test.YtlooblgdlfheaaaAg
import Derived.Deep.Cut
import Derived.Deep.CutRange
namespace Go.Proofs.Ytlooblgdlfheaaa.Amp
open Go.RowKit Go.Proofs Go.Proofs.Ytlooblgdlfheaaa.Byt
open Go.Proofs.Ytlooblgdlfheaaa.Sls (Oth Fr blk)

theorem ib_nm1 (l : List UInt8) : (Lib.indexByte l 0 = -1 ∧ nm1 l = l) ∨ ∃ i : Nat, Lib.indexByte l 0 = (i : Int) ∧ i < l.length ∧ nm1 l = l.take i ∧ nm1 l ≠ l ∧ (nm1 l).length = i := by
  have hge := Lib.indexByte_ge l 0
  rcases Int.lt_or_le (Lib.indexByte l 0) 0 with q | q
  · exact .inl ⟨by omega, nm1_all ((ib_lt l).1 q)⟩
  · obtain ⟨i, hi⟩ := Int.eq_ofNat_of_zero_le q
    obtain ⟨h1, h2⟩ := Lib.indexByte_some hi
    obtain ⟨hil, hz⟩ := List.getElem?_eq_some_iff.1 h1
    have hno : (0 : UInt8) ∉ (l.drop 0).take (i - 0) := fun hm => by
      rw [List.drop_zero, Nat.sub_zero] at hm
      obtain ⟨k, hk, e⟩ := List.mem_iff_getElem.1 hm
      rw [List.getElem_take] at e
      rw [List.length_take] at hk
      exact h2 k (by omega) (by rw [List.getElem?_eq_getElem (by omega), e])
    have h3 := (nm1_at (Nat.zero_le i) hil hno hz).1
    rw [List.drop_zero, Nat.sub_zero] at h3
    refine .inr ⟨i, hi, hil, h3, fun e => ?_, by rw [h3, List.length_take]; omega⟩
    have := congrArg List.length (h3.symm.trans e)
    rw [List.length_take] at this
    omega

theorem bytesOf_enc (l : List UInt8) : Lib.bytesOf (l.map fun c => (c.toNat : Int)) = l := by
  unfold Lib.bytesOf
  rw [List.map_map]
  conv => rhs; rw [← List.map_id l]
  apply List.map_congr_left
  intro c _
  simp

set_option maxRecDepth 100000 in
set_option maxHeartbeats 1000000 in
theorem index0_any (w : World) (K b o n c g : Nat) (l : List UInt8) (hr : Byt.Rd w K (some ⟨b, o, none⟩) n l) (hz : w.cell? ⟨g, 0, none⟩ = some (.int .u8 0)) :
    Calls Try.prog 26 #[.slice (some ⟨b, o, none⟩) n c, .slice (some ⟨g, 0, none⟩) 1 1] w fun e w' => e = .returned (.int .i64 (Lib.indexByte l 0)) ∧ w' = w := by
  have H := hid (Try.bytes_IndexByte b o n c (l.map fun c => (c.toNat : Int)) 0 w (by rw [List.length_map]; exact hr.1) (fun i hi => by
    obtain ⟨b', o', e, _, hc⟩ := hr.2 i (by rw [hr.1]; exact hi)
    injection e with e
    injection e with e1 e2
    subst e1 e2
    rw [hc]
    simp [List.getD_eq_getElem?_getD, List.getElem?_eq_getElem (show i < l.length by rw [hr.1]; exact hi)]))
  rw [bytesOf_enc, show (0 : Int).toNat.toUInt8 = 0 from rfl] at H
  clear hr
  go_enter Try.func26, Try.ntmps26
  go_wp2_with fail
  refine H.out.mono ?_
  rintro e w1 ⟨rfl, rfl⟩
  go_wp2_with fail
  go_ret
  exact ⟨rfl, rfl⟩

theorem slice_upto (b o n c i : Nat) (u : Int) (hu : u = (i : Int)) (hi : i ≤ c) (w : World) :
    (Instr.slice 23 (.slice (some ⟨b, o, none⟩) n c) none (some (.int .i64 u)) none).run Try.prog w = .ok (.slice (some ⟨b, o, none⟩) i c) w ∧ (Instr.sliceAt 23 (.slice (some ⟨b, o, none⟩) n c) none (some (.int .i64 u)) none).run Try.prog w = .ok (.slice (some ⟨b, o, none⟩) i c) w := by
  subst hu
  have h2 : (i : Int) ≤ (c : Int) := by omega
  exact ⟨by go_simp, by go_simp⟩
theorem slice_from (K b o n c f : Nat) (u : Int) (hu : u = (f : Int)) (hf : f ≤ n) (hnc : n ≤ c) :
    ∃ p, (∀ w, (Instr.sliceAt 23 (.slice (some ⟨b, o, none⟩) n c) (some (.int .i64 u)) none none).run Try.prog w = .ok (.slice (some ⟨b, p, none⟩) (n - f) (c - f)) w) ∧ (∀ w, (Instr.slice 23 (.slice (some ⟨b, o, none⟩) n c) (some (.int .i64 u)) none none).run Try.prog w = .ok (.slice (some ⟨b, p, none⟩) (n - f) (c - f)) w) ∧ ∀ w l, Byt.Rd w K (some ⟨b, o, none⟩) n l → Byt.Rd w K (some ⟨b, p, none⟩) (n - f) (l.drop f) := by
  subst hu
  have h1 : (f : Int) ≤ (n : Int) := by omega
  have h2 : (n : Int) ≤ (c : Int) := by omega
  have h3 : (f : Int) ≤ (c : Int) := by omega
  by_cases hc : c = f
  · subst hc
    obtain rfl : n = c := by omega
    exact ⟨o, fun w => by go_simp, fun w => by go_simp, fun w l hr => hr.cut_at n (Nat.le_refl _)⟩
  · exact ⟨o + f, fun w => by go_simp, fun w => by go_simp, fun w l hr => hr.cut f⟩

set_option maxRecDepth 100000 in
set_option maxHeartbeats 1000000 in
theorem cut0_any (w : World) (K b o n c g : Nat) (l : List UInt8) (hr : Byt.Rd w K (some ⟨b, o, none⟩) n l) (hnc : n ≤ c) (hc : c ≤ maxLen) (hz : w.cell? ⟨g, 0, none⟩ = some (.int .u8 0)) :
    Calls Try.prog 23 #[.slice (some ⟨b, o, none⟩) n c, .slice (some ⟨g, 0, none⟩) 1 1] w fun e w' => (∃ m, w' = w.drewN m) ∧
      ((nm1 l = l ∧ e = .returned (.tuple #[.slice (some ⟨b, o, none⟩) n c, .slice none 0 0, .bool false])) ∨
        ∃ i p, nm1 l ≠ l ∧ i < n ∧ nm1 l = l.take i ∧ e = .returned (.tuple #[.slice (some ⟨b, o, none⟩) i c, .slice (some ⟨b, p, none⟩) (n - (i + 1)) (c - (i + 1)), .bool true]) ∧ Byt.Rd w K (some ⟨b, p, none⟩) (n - (i + 1)) (l.drop (i + 1))) := by
  have H := hid (index0_any w K b o n c g l hr hz)
  unfold maxLen at hc
  rcases ib_nm1 l with ⟨hx, hn⟩ | ⟨i, hx, hil, hn, hne, hlen⟩
  · rw [hx] at H
    have HN := hid hn
    clear hx hn hz hr
    go_enter Try.func23, Try.ntmps23
    go_wp2_with fail
    refine H.out.mono ?_
    rintro e w1 ⟨rfl, rfl⟩
    go_wp2_with fail
    refine bodyPost_ret (v := .tuple #[.slice (some ⟨b, o, none⟩) n c, .slice none 0 0, .bool false]) (by simp [results, Try.results23, asAddr]) rfl ⟨⟨0, rfl⟩, .inl ⟨HN.out, rfl⟩⟩
  · rw [hx] at H
    have hin : i < n := by have := hr.1; omega
    have hw1 : IntKind.i64.wrap ((i : Int) + 1) = (i : Int) + 1 := by rw [IntKind.wrap_i64]; omega
    obtain ⟨p, s1, s2, s3⟩ := slice_from K b o n c (i + 1) ((i : Int) + 1) (by omega) (by omega) hnc
    have u1 := fun W => (slice_upto b o n c i (i : Int) rfl (by omega) W).1
    have u2 := fun W => (slice_upto b o n c i (i : Int) rfl (by omega) W).2
    have HF := hid (And.intro hn (And.intro hne (s3 w l hr)))
    have hge : ¬ ((i : Int) < 0) := by omega
    have hge2 : (0 : Int) ≤ (i : Int) := by omega
    clear hx hn hne hlen hil hz hr s3
    go_enter Try.func23, Try.ntmps23
    go_wp2_with fail
    refine H.out.mono ?_
    rintro e w1 ⟨rfl, rfl⟩
    clear hge
    go_wp2_with fail
    go_quiet (fail)
    go_wp2_with fail
    refine bodyPost_ret (v := .tuple #[.slice (some ⟨b, o, none⟩) i c, .slice (some ⟨b, p, none⟩) (n - (i + 1)) (c - (i + 1)), .bool true]) (by simp [results, Try.results23, asAddr]) rfl ⟨⟨nq, rfl⟩, .inr ⟨i, p, HF.out.2.1, hin, HF.out.1, rfl, HF.out.2.2⟩⟩
end Go.Proofs.Ytlooblgdlfheaaa.Amp
