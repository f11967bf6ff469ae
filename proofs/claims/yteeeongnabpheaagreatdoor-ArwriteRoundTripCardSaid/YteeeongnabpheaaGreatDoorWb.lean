/-
  arwrite: Fits, partSize; the reference's Fits; few members.
-/
import Derived.Test.YteeeongnabpheaaGreatDoorWa
namespace Go.Proofs.YteeeongnabpheaaGreatDoor.Arw
open Go.RowKit Go.Proofs Go.Proofs.YteeeongnabpheaaGreatDoor.Byt Go.Proofs.YteeeongnabpheaaGreatDoor.Dec Go.Proofs.YteeeongnabpheaaGreatDoor.Lnm Go.Proofs.YteeeongnabpheaaGreatDoor.Hdr Go.Proofs.YteeeongnabpheaaGreatDoor.Arp

theorem fitL_step {xs : List Mem} {k : Nat} (hk : k < xs.length) : fitL k (xs.drop k) = if fitsM xs[k] = 0 then fitL (k + 1) (xs.drop (k + 1)) else ((k : Int), fitsM xs[k]) := by
  rw [List.drop_eq_getElem_cons hk]
  rfl

set_option maxRecDepth 100000 in
set_option maxHeartbeats 1000000 in
theorem fits5_any (K : Nat) (A : Option Addr) (n c : Nat) (xs : List Mem) (w : World) (h : RdM w K A n xs) (hK : K ≤ w.heap.size) (hok : ∀ x ∈ xs, MOk x) (hn : n ≤ 140737488355328) :
    Calls Tryz.prog 16 #[.slice A n c] w fun e w' => e = .returned (.tuple #[.int .i64 (fitL 0 xs).1, .int .i64 (fitL 0 xs).2]) ∧ Below w.heap.size w w' := by
  have Hl := hid h.1
  go_enter Tryz.func16, Tryz.ntmps16
  go_wp2_with fail
  go_loopw [9] (fun i W => ∃ k : Nat, i = .int .i64 (k : Int) ∧ k ≤ n ∧ Hid (fitL 0 xs = fitL k (xs.drop k)) ∧ Below w.heap.size w W) (fun i _ => n - (intOf i).toNat)
  case atStart => exact ⟨0, rfl, by omega, hid rfl, Below.refl _ _⟩
  case round =>
    obtain ⟨k, rfl, hk, hG, hb⟩ := hrel
    by_cases hlt : k < n
    · have hkl : k < xs.length := by have := Hl.out; omega
      have hki : (k : Int) < (n : Int) := by omega
      have HS := hid (fitL_step hkl)
      have hx := hok xs[k] (List.getElem_mem hkl)
      obtain ⟨⟨b, o, rfl, hbK, hcell⟩, _, _⟩ := (h.below (hb.mono hK)).2 k hkl
      have hb1 := hb.alloc hb.size (.cells #[.string xs[k].name, .int .i64 xs[k].time, .int .i64 xs[k].uid, .int .i64 xs[k].gid, .int .i64 xs[k].mode, .slice xs[k].ptr xs[k].len xs[k].cap] 46)
      have hrow := heap_alloc_new wr (.cells #[.string xs[k].name, .int .i64 xs[k].time, .int .i64 xs[k].uid, .int .i64 xs[k].gid, .int .i64 xs[k].mode, .slice xs[k].ptr xs[k].len xs[k].cap] 46)
      generalize xs[k] = x at *
      have Hm := hid fun W => memberFits_any x W hx
      clear hx
      generalize fitsM x = fm at *
      obtain ⟨x0, x1, x2, x3, x4, x5, x6, x7, x8⟩ := x
      obtain ⟨p0, p1, p2, p3, p4, p5⟩ := hcell
      simp only [Mem.val] at *
      have HB := hid hb
      clear hb
      go_upto_region 4 with fail
      generalize wr.alloc (.cells #[.string x0, .int .i64 x1, .int .i64 x2, .int .i64 x3, .int .i64 x4, .slice x5 x6 x7] 46) = w1 at *
      generalize wr.heap.size = g at *
      have c0 := cell_of_row _ g 0 _ _ _ hrow
      have c1 := cell_of_row _ g 1 _ _ _ hrow
      have c2 := cell_of_row _ g 2 _ _ _ hrow
      have c3 := cell_of_row _ g 3 _ _ _ hrow
      have c4 := cell_of_row _ g 4 _ _ _ hrow
      have c5 := cell_of_row _ g 5 _ _ _ hrow
      go_wp2_with fail
      refine (Hm.out _).mono ?_
      rintro e w2 ⟨rfl, hb2⟩
      have hb02 := hb1.trans (hb2.mono hb1.size)
      clear c0 c1 c2 c3 c4 c5 hrow hb1 hb2 p0 p1 p2 p3 p4 p5
      by_cases hz : fm = 0
      · have HR : Hid (fitL 0 xs = fitL (k + 1) (xs.drop (k + 1))) := hid (by rw [hG.out, HS.out, if_pos hz])
        go_wp2_with fail
        go_roundw
        all_goals first
          | exact ⟨k + 1, by go_num, by omega, HR, hb02⟩
          | (simp [intOf]; omega)
      · have HR : Hid (fitL 0 xs = ((k : Int), fm)) := hid (by rw [hG.out, HS.out, if_neg hz])
        go_wp2_with fail
        go_ret2
        exact ⟨by rw [HR.out]; rfl, hb02⟩
    · obtain rfl : k = n := by omega
      have HR : Hid (fitL 0 xs = (-1, 0)) := hid (by rw [hG.out, List.drop_eq_nil_of_le (by have := Hl.out; omega)]; rfl)
      go_wp2_with fail
      go_ret2
      exact ⟨by rw [HR.out]; rfl, hb⟩

set_option maxRecDepth 100000 in
theorem partSize_any (n : Nat) (hn : n ≤ 1000000) (w : World) :
    Calls Tryz.prog 27 #[.int .i64 (n : Int)] w fun e w' => e = .returned (.int .i64 ((60 + n + n % 2 : Nat) : Int)) ∧ w' = w := by
  have h1 : IntKind.i64.wrap (60 + (n : Int)) = 60 + (n : Int) := by rw [IntKind.wrap_i64]; omega
  have h2 : (n : Int).tmod 2 = ((n % 2 : Nat) : Int) := rfl
  have h3 : IntKind.i64.wrap ((n % 2 : Nat) : Int) = ((n % 2 : Nat) : Int) := by rw [IntKind.wrap_i64]; omega
  have h4 : IntKind.i64.wrap (60 + (n : Int) + ((n % 2 : Nat) : Int)) = ((60 + n + n % 2 : Nat) : Int) := by rw [IntKind.wrap_i64]; omega
  generalize hq : ((n % 2 : Nat) : Int) = q at *
  generalize hp : ((60 + n + n % 2 : Nat) : Int) = p at *
  clear hq hp
  go_enter Tryz.func27, Tryz.ntmps27
  go_wp2_with fail
  go_ret
  exact ⟨rfl, rfl⟩

set_option maxRecDepth 100000 in
set_option maxHeartbeats 1000000 in
theorem rfits5_any (K : Nat) (A : Option Addr) (n c : Nat) (xs : List Mem) (w : World) (h : RdM w K A n xs) (hK : K ≤ w.heap.size) (hok : ∀ x ∈ xs, MOk x) (hn : n ≤ 140737488355328) :
    Calls Tryz.prog 8 #[.slice A n c] w fun e w' => e = .returned (.tuple #[.int .i64 (fitL 0 xs).1, .int .i64 (fitL 0 xs).2]) ∧ Below w.heap.size w w' := by
  have Hl := hid h.1
  go_enter Tryz.func8, Tryz.ntmps8
  go_wp2_with fail
  go_loopw [4] (fun i W => ∃ k : Nat, i = .int .i64 (k : Int) ∧ k ≤ n ∧ Hid (fitL 0 xs = fitL k (xs.drop k)) ∧ Below w.heap.size w W) (fun i _ => n - (intOf i).toNat)
  case atStart => exact ⟨0, rfl, by omega, hid rfl, Below.refl _ _⟩
  case round =>
    obtain ⟨k, rfl, hk, hG, hb⟩ := hrel
    by_cases hlt : k < n
    · have hkl : k < xs.length := by have := Hl.out; omega
      have hki : (k : Int) < (n : Int) := by omega
      have HS := hid (fitL_step hkl)
      have hx := hok xs[k] (List.getElem_mem hkl)
      obtain ⟨⟨b, o, rfl, hbK, hcell⟩, _, _⟩ := (h.below (hb.mono hK)).2 k hkl
      have hb1 := hb.alloc hb.size (.cells #[.string xs[k].name, .int .i64 xs[k].time, .int .i64 xs[k].uid, .int .i64 xs[k].gid, .int .i64 xs[k].mode, .slice xs[k].ptr xs[k].len xs[k].cap] 46)
      have hrow := heap_alloc_new wr (.cells #[.string xs[k].name, .int .i64 xs[k].time, .int .i64 xs[k].uid, .int .i64 xs[k].gid, .int .i64 xs[k].mode, .slice xs[k].ptr xs[k].len xs[k].cap] 46)
      generalize xs[k] = x at *
      have hx1 := hx.name
      have hx2 := hx.len
      have He := hid fun W => rencode_any ⟨#[97]⟩ x.time x.uid x.gid x.mode (x.len : Int) W (by decide) hx.t hx.u hx.g hx.m (by omega)
      have HM : Hid (fitsM x = if vld (bts x.name) = true then eerr ⟨#[47, 48]⟩ (num x.time x.uid x.gid x.mode (x.len : Int)) else 6) := hid rfl
      have H09 := hid (eerr_09 (num x.time x.uid x.gid x.mode (x.len : Int)))
      unfold Encodes at He
      simp only [eerr_a] at He
      clear hx
      generalize fitsM x = fm at *
      obtain ⟨x0, x1, x2, x3, x4, x5, x6, x7, x8⟩ := x
      obtain ⟨p0, p1, p2, p3, p4, p5⟩ := hcell
      simp only at *
      generalize eerr ⟨#[47, 48]⟩ (num x1 x2 x3 x4 (x6 : Int)) = ee at *
      have HB := hid hb
      clear hb
      go_upto_region 5 with fail
      generalize wr.alloc (.cells #[.string x0, .int .i64 x1, .int .i64 x2, .int .i64 x3, .int .i64 x4, .slice x5 x6 x7] 46) = w1 at *
      generalize wr.heap.size = g at *
      have c0 := cell_of_row _ g 0 _ _ _ hrow
      go_wp2_with fail
      refine (rvalid_any x0 w1 (by omega)).mono ?_
      rintro e w2 ⟨rfl, m2, hw2⟩
      have hrow2 := (show w2.heap[g]? = w1.heap[g]? by rw [hw2]; rfl).trans hrow
      have hb2 : Below w.heap.size w w2 := by rw [hw2]; exact hb1.trans ⟨rfl, rfl, rfl, Nat.le_refl _, fun _ _ => rfl⟩
      clear hw2 c0 hrow hb1
      cases hv : vld (bts x0)
      · rw [hv] at HM
        have e6 : fm = 6 := HM.out
        subst e6
        have HR : Hid (fitL 0 xs = ((k : Int), 6)) := hid (by rw [hG.out, HS.out, if_neg (by decide)])
        go_wp2_with fail
        go_ret2
        exact ⟨by rw [HR.out]; rfl, hb2⟩
      · rw [hv] at HM
        have e6 : fm = ee := HM.out
        subst e6
        have c1 := cell_of_row _ g 1 _ _ _ hrow2
        have c2 := cell_of_row _ g 2 _ _ _ hrow2
        have c3 := cell_of_row _ g 3 _ _ _ hrow2
        have c4 := cell_of_row _ g 4 _ _ _ hrow2
        have c5 := cell_of_row _ g 5 _ _ _ hrow2
        go_wp2_with fail
        refine (He.out _).mono ?_
        rintro e w3 ⟨v, rfl, _, hb3⟩
        have hb03 := hb2.trans (hb3.mono hb2.size)
        clear c1 c2 c3 c4 c5 hrow2 hb2 hb3 p0 p1 p2 p3 p4 p5
        by_cases hz : fm = 0
        · have HR : Hid (fitL 0 xs = fitL (k + 1) (xs.drop (k + 1))) := hid (by rw [hG.out, HS.out, if_pos hz])
          go_wp2_with fail
          go_roundw
          all_goals first
            | exact ⟨k + 1, by go_num, by omega, HR, hb03⟩
            | (simp [intOf]; omega)
        · have h9 : fm = 9 := by rcases H09.out with q | q; exact absurd q hz; exact q
          subst h9
          have HR : Hid (fitL 0 xs = ((k : Int), 9)) := hid (by rw [hG.out, HS.out, if_neg hz])
          go_wp2_with fail
          go_ret2
          exact ⟨by rw [HR.out]; rfl, hb03⟩
    · obtain rfl : k = n := by omega
      have HR : Hid (fitL 0 xs = (-1, 0)) := hid (by rw [hG.out, List.drop_eq_nil_of_le (by have := Hl.out; omega)]; rfl)
      go_wp2_with fail
      go_ret2
      exact ⟨by rw [HR.out]; rfl, hb⟩
end Go.Proofs.YteeeongnabpheaaGreatDoor.Arw
