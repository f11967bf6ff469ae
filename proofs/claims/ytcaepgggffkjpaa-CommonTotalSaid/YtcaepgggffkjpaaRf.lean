/-
  CommonTotal, walked.
-/
import Derived.Test.YtcaepgggffkjpaaRe
namespace Go.Proofs.Ytcaepgggffkjpaa.Cmn
open Go.RowKit Go.Proofs Go.Proofs.Ytcaepgggffkjpaa.Byt
open Go.Proofs.Ytcaepgggffkjpaa.Tab (bl bl_iff bl_irrefl bl_trans bl_total tl_inj)
open Go.Proofs.Ytcaepgggffkjpaa.Bnd (Us)
open Go.Proofs.Ytcaepgggffkjpaa.Obj (pow2 pows)

def sumF (f : Us → Int) : List Us → Int
  | [] => 0
  | x :: r => f x + sumF f r
theorem sumF_perm {f : Us → Int} {a b : List Us} (h : a.Perm b) : sumF f a = sumF f b := by
  induction h with
  | nil => rfl
  | cons x _ ih => simp only [sumF, ih]
  | swap x y l => simp only [sumF]; omega
  | trans _ _ h1 h2 => exact h1.trans h2
theorem sumF_snoc (f : Us → Int) : ∀ (l : List Us) (x : Us), sumF f (l ++ [x]) = sumF f l + f x
  | [], x => by simp [sumF]
  | y :: l, x => by simp only [List.cons_append, sumF, sumF_snoc f l x]; omega
def fS (x : Us) : Int := x.s.size
def fM (x : Us) : Int := x.s.size + x.s.align
theorem layS_tot (l : List Us) : (∀ x ∈ l, ComOk x) → sumF fS l ≤ (layS l).fin ∧ ((layS l).fin < sumF fM l ∨ (sumF fM l = 0 ∧ (layS l).fin = 0)) ∧ (layS l).fin ≤ sumF fM l := by
  refine Dec.by_snoc (P := fun l => (∀ x ∈ l, ComOk x) → sumF fS l ≤ (layS l).fin ∧ ((layS l).fin < sumF fM l ∨ (sumF fM l = 0 ∧ (layS l).fin = 0)) ∧ (layS l).fin ≤ sumF fM l) (fun _ => ⟨by decide, .inr ⟨rfl, rfl⟩, by decide⟩) (fun l x ih hx => ?_) l
  obtain ⟨h1, h2, h3⟩ := ih fun y hy => hx y (List.mem_append_left _ hy)
  obtain ⟨k1, k2, k3, k4⟩ := hx x (List.mem_append_right _ List.mem_cons_self)
  rw [layS_snoc, sumF_snoc, sumF_snoc]
  have h6 := upTo_le (e := (layS l).fin) k3
  have e1 : fS x = x.s.size := rfl
  have e2 : fM x = x.s.size + x.s.align := rfl
  unfold Lay.step
  simp only
  exact ⟨by omega, .inl (by omega), by omega⟩
theorem take_filter {xs : List Us} {i : Nat} (h : i < xs.length) : (xs.take (i + 1)).filter com = if com xs[i] = true then (xs.take i).filter com ++ [xs[i]] else (xs.take i).filter com := by
  rw [List.take_succ_eq_append_getElem h, List.filter_append]
  split
  · rename_i hc; simp [hc]
  · rename_i hc; simp [hc]
/-- The sums over the common ones among the first i. -/
def lst (xs : List Us) (i : Nat) : Int := sumF fS ((xs.take i).filter com)
def mst (xs : List Us) (i : Nat) : Int := sumF fM ((xs.take i).filter com)
theorem RightR.sums {xs : List Us} (h : RightR xs) : ∀ i, i ≤ xs.length → 0 ≤ lst xs i ∧ lst xs i ≤ i * 4294967295 ∧ 0 ≤ mst xs i ∧ mst xs i ≤ i * 4295032831
  | 0, _ => by unfold lst mst; simp [sumF]
  | i + 1, hi => by
    obtain ⟨h1, h2, h3, h4⟩ := RightR.sums h i (by omega)
    unfold lst mst at *
    rw [take_filter (show i < xs.length by omega)]
    split
    · rename_i hc
      obtain ⟨k1, k2, k3, k4⟩ := h.ok _ (List.getElem_mem (show i < xs.length by omega)) hc
      rw [sumF_snoc, sumF_snoc]
      unfold fS fM at *
      exact ⟨by omega, by omega, by omega, by omega⟩
    · exact ⟨by omega, by omega, by omega, by omega⟩
theorem RightR.tot {xs : List Us} (h : RightR xs) : lst xs xs.length ≤ (layL xs).fin ∧ ((layL xs).fin < mst xs xs.length ∨ (mst xs xs.length = 0 ∧ (layL xs).fin = 0)) ∧ 0 ≤ (layL xs).fin := by
  have hp := srt_perm xs
  have hc : ∀ x ∈ srt xs, ComOk x := fun x hx => by
    have hf := hp.mem_iff.1 hx
    rw [List.mem_filter] at hf
    exact h.ok x hf.1 hf.2
  have h1 := layS_tot _ hc
  have h2 := layS_fin _ hc
  unfold lst mst
  rw [List.take_length, ← sumF_perm hp, ← sumF_perm hp]
  exact ⟨h1.1, h1.2.1, h2.1⟩

set_option linter.unusedSimpArgs false in
set_option maxRecDepth 100000 in
set_option maxHeartbeats 4000000 in
theorem total_any (P : PC) (w : World) (A : Option Addr) (n c : Nat) (xs : List Us) (h : RdR w w.heap.size A n xs) :
    Calls Try.prog 7 #[.slice A n c] w fun e w' => e = .returned (.bool true) ∧ Below w.heap.size w w' := by
  have HX := hid h
  have Hl : xs.length = n := h.1
  have HA := hid fun V => awake16_any P V
  clear h
  go_enter Try.func7, Try.ntmps7
  go_wp2_with fail
  refine (HA.out _).mono ?_
  rintro e w1 ⟨rfl, hb1⟩
  have HG := hid (rright_any w.heap.size A n c xs w1 (HX.out.below hb1) hb1.size)
  have HB1 := hid hb1
  clear hb1
  go_wp2_with fail
  refine HG.out.mono ?_
  rintro e w2 ⟨hb2, ⟨rfl, hr⟩ | rfl⟩
  · have HB2 := hid (HB1.out.trans (hb2.mono HB1.out.size))
    have HR := hid hr
    have hn : n ≤ 100 := Hl ▸ hr.len
    have HL := hid (P.layout w.heap.size A n c xs w2 (HX.out.below HB2.out) HB2.out.size hr)
    have HS := hid hr.sums
    have HT := hid hr.tot
    clear hb2 hr HB1 HG P
    go_upto_region 4 with (go_at_call 10; refine HL.out.mono ?_; rintro e w3 ⟨A3, c3, rfl, ho3, hb3⟩)
    have HB3 := hid (HB2.out.trans (hb3.mono HB2.out.size))
    clear HL ho3 hb3 HB2
    go_wp2_with fail
    go_loopw [6, 7, 8] (fun lv mv iv W => ∃ i : Nat, lv = .int .i64 (lst xs i) ∧ mv = .int .i64 (mst xs i) ∧ iv = .int .i64 (i : Int) ∧ i ≤ n ∧ Below w.heap.size w W) (fun _ _ iv _ => n - (intOf iv).toNat)
    case atStart => exact ⟨0, rfl, rfl, rfl, Nat.zero_le _, HB3.out⟩
    case round =>
      obtain ⟨i, rfl, rfl, rfl, hi, hb⟩ := hrel
      by_cases hlt : i < n
      · have hil : i < xs.length := by omega
        have hii : (i : Int) < (n : Int) := by omega
        obtain ⟨b, o, rfl, _, p0, p1, p2, p3, p4⟩ := (HX.out.below hb).at_ hil
        obtain ⟨s1, s2, s3, s4⟩ := HS.out i (by omega)
        have HL1 : Hid (lst xs (i + 1) = if com xs[i] = true then lst xs i + xs[i].s.size else lst xs i) := hid (by
          unfold lst; rw [take_filter hil]; split
          · rw [sumF_snoc]; rfl
          · rfl)
        have HM1 : Hid (mst xs (i + 1) = if com xs[i] = true then mst xs i + xs[i].s.size + xs[i].s.align else mst xs i) := hid (by
          unfold mst; rw [take_filter hil]; split
          · rw [sumF_snoc]; unfold fM; omega
          · rfl)
        have HC := hid (HR.out.ok _ (List.getElem_mem hil))
        generalize lst xs i = l1 at *
        generalize mst xs i = m1 at *
        generalize xs[i] = x at *
        obtain ⟨⟨x0, x1, x2, x3⟩, x4⟩ := x
        simp only at p0 p1 p2 p3 p4 HL1 HM1 HC
        by_cases hc : x1 = 3
        · subst hc
          have HL2 := HL1.out
          have HM2 := HM1.out
          rw [if_pos (show com _ = true from rfl)] at HL2 HM2
          obtain ⟨k1, k2, k3, k4⟩ := HC.out rfl
          simp only at k1 k2 k3 k4
          have HL2 := hid HL2
          have HM2 := hid HM2
          clear HL1 HM1 HC
          go_wp2_with fail
          go_quiet (fail)
          go_wp2_with fail
          go_roundw
          · exact ⟨i + 1, by rw [HL2.out], by rw [HM2.out], by go_num, by omega, bdw hb _⟩
          · simp [intOf]; omega
        · have hcb : (x1 == 3) = false := by simpa using hc
          have HL2 := HL1.out
          have HM2 := HM1.out
          rw [if_neg (by simpa [com] using hc)] at HL2 HM2
          have HL2 := hid HL2
          have HM2 := hid HM2
          clear HL1 HM1 HC hc
          go_wp2_with fail
          go_roundw
          · exact ⟨i + 1, by rw [HL2.out], by rw [HM2.out], by go_num, by omega, hb⟩
          · simp [intOf]; omega
      · obtain rfl : i = n := by omega
        have hii : ¬ (i : Int) < (i : Int) := by omega
        have ht := HT.out
        rw [Hl] at ht
        obtain ⟨t1, t2, t3⟩ := ht
        generalize lst xs i = l1 at *
        generalize mst xs i = m1 at *
        generalize (layL xs).fin = F at *
        by_cases hm : F < m1
        · go_wp2_with fail
          go_ret
          exact ⟨rfl, hb⟩
        · obtain ⟨e1, e2⟩ := t2.resolve_left hm
          subst e1 e2
          go_wp2_with fail
          go_ret
          exact ⟨rfl, hb⟩
  · have HB2 := hid (HB1.out.trans (hb2.mono HB1.out.size))
    clear hb2
    go_wp2_with fail
    refine (HA.out _).mono ?_
    rintro e w3 ⟨rfl, hb3⟩
    have HB3 := hid (HB2.out.trans (hb3.mono HB2.out.size))
    clear hb3
    go_wp2_with fail
    go_ret
    exact ⟨rfl, HB3.out⟩
end Go.Proofs.Ytcaepgggffkjpaa.Cmn
