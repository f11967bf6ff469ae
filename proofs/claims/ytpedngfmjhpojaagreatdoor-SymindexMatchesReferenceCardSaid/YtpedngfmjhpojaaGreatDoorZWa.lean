/-
  arwrite: which members fit (mathematics); memberHeader, memberFits, Fits, partSize; the reference's Fits; few members.
  arwrite: Fits, partSize; the reference's Fits; few members.
-/
import Derived.Test.YtpedngfmjhpojaaGreatDoorZHdf
import Derived.Test.YtpedngfmjhpojaaGreatDoorZMf
import Derived.Test.YtpedngfmjhpojaaGreatDoorZMk
namespace Go.Proofs.YtpedngfmjhpojaaGreatDoor.Arw
open Go.RowKit Go.Proofs Go.Proofs.YtpedngfmjhpojaaGreatDoor.Byt Go.Proofs.YtpedngfmjhpojaaGreatDoor.Dec Go.Proofs.YtpedngfmjhpojaaGreatDoor.Lnm Go.Proofs.YtpedngfmjhpojaaGreatDoor.Hdr Go.Proofs.YtpedngfmjhpojaaGreatDoor.Arp

/-- A member whose parts are small, and whose numbers are numbers. -/
structure MOk (x : Mem) : Prop where
  name : x.name.size ≤ 300
  len : x.len ≤ 1000
  t : x.time < 9223372036854775808
  u : x.uid < 9223372036854775808
  g : x.gid < 9223372036854775808
  m : x.mode < 9223372036854775808
/-- The error of one member. -/
def fitsM (x : Mem) : Int := if vld (bts x.name) = true then eerr ⟨#[47, 48]⟩ (num x.time x.uid x.gid x.mode (x.len : Int)) else 6
/-- The first member that does not fit, and its error. -/
def fitL : Nat → List Mem → Int × Int
  | _, [] => (-1, 0)
  | k, x :: r => if fitsM x = 0 then fitL (k + 1) r else ((k : Int), fitsM x)
theorem eerr_a (f : Nat → Int) : eerr ⟨#[97]⟩ f = eerr ⟨#[47, 48]⟩ f := by
  have h1 : nameOk ⟨#[97]⟩ = true := by decide +kernel
  have h2 : nameOk ⟨#[47, 48]⟩ = true := by decide +kernel
  have h3 : isTab ⟨#[97]⟩ = false := by decide +kernel
  have h4 : isTab ⟨#[47, 48]⟩ = false := by decide +kernel
  have h5 : ∀ k, allOk ⟨#[97]⟩ f k = allOk ⟨#[47, 48]⟩ f k := fun k => by
    induction k with
    | zero => rfl
    | succ k ih => unfold allOk; rw [ih, h3, h4]
  unfold eerr
  rw [if_pos h1, if_pos h2, h5]
theorem eerr_09 (f : Nat → Int) : eerr ⟨#[47, 48]⟩ f = 0 ∨ eerr ⟨#[47, 48]⟩ f = 9 := by
  have h2 : nameOk ⟨#[47, 48]⟩ = true := by decide +kernel
  unfold eerr
  rw [if_pos h2]
  split
  · exact .inl rfl
  · exact .inr rfl

theorem load6 (w : World) (B : Nat) (cs : Array Value) (h : w.heap[B]? = some (.cells cs 87 (0, 0))) (hs : cs.size = 6) :
    (loadVar 87 ⟨B, 0, none⟩).run Tryz.prog w = .ok (.agg cs) w :=
  run_loadVar_row w B 87 87 cs (0, 0) _ h Tryz.underlying87 rfl (by rw [hs]; kernel_rfl)

set_option maxRecDepth 100000 in
set_option maxHeartbeats 1000000 in
theorem memberHeader_any (s : ByteArray) (x : Mem) (w : World) :
    Calls Tryz.prog 86 #[.string s, x.val] w fun e w' => e = .returned (.agg #[.string s, .int .i64 x.time, .int .i64 x.uid, .int .i64 x.gid, .int .i64 x.mode, .int .i64 (x.len : Int)]) ∧ Below w.heap.size w w' := by
  obtain ⟨x0, x1, x2, x3, x4, x5, x6, x7, x8⟩ := x
  simp only [Mem.val]
  have hbz := ((Below.refl w.heap.size w).alloc (Nat.le_refl _) (.cells #[.string x0, .int .i64 x1, .int .i64 x2, .int .i64 x3, .int .i64 x4, .slice x5 x6 x7] 49)).alloc (by simp) (.cells #[.string s, .int .i64 x1, .int .i64 x2, .int .i64 x3, .int .i64 x4, .int .i64 (x6 : Int)] 87)
  have hrow := heap_alloc_new (w.alloc (.cells #[.string x0, .int .i64 x1, .int .i64 x2, .int .i64 x3, .int .i64 x4, .slice x5 x6 x7] 49)) (.cells #[.string s, .int .i64 x1, .int .i64 x2, .int .i64 x3, .int .i64 x4, .int .i64 (x6 : Int)] 87)
  rw [World.size_alloc] at hrow
  have hl := load6 _ _ _ hrow rfl
  clear hrow
  go_enter Tryz.func86, Tryz.ntmps86
  go_wp2_with fail
  exact bodyPost_ret (v := .agg #[.string s, .int .i64 x1, .int .i64 x2, .int .i64 x3, .int .i64 x4, .int .i64 (x6 : Int)]) (by simp [results, Tryz.results86, asAddr, hl]) rfl ⟨rfl, hbz⟩

set_option maxRecDepth 100000 in
set_option maxHeartbeats 1000000 in
theorem memberFits_any (x : Mem) (w : World) (hx : MOk x) :
    Calls Tryz.prog 80 #[x.val] w fun e w' => e = .returned (.int .i64 (fitsM x)) ∧ Below w.heap.size w w' := by
  have hb0 := (Below.refl w.heap.size w).alloc (Nat.le_refl _) (.cells #[.string x.name, .int .i64 x.time, .int .i64 x.uid, .int .i64 x.gid, .int .i64 x.mode, .slice x.ptr x.len x.cap] 49)
  have hrow := heap_alloc_new w (.cells #[.string x.name, .int .i64 x.time, .int .i64 x.uid, .int .i64 x.gid, .int .i64 x.mode, .slice x.ptr x.len x.cap] 49)
  have hn := hx.name
  have Hh := hid fun W => memberHeader_any ⟨#[47, 48]⟩ x W
  have hlen := hx.len
  have Hf := hid fun W => fits_any ⟨#[47, 48]⟩ x.time x.uid x.gid x.mode (x.len : Int) W (by decide) hx.t hx.u hx.g hx.m (by omega)
  have HM : Hid (fitsM x = if vld (bts x.name) = true then eerr ⟨#[47, 48]⟩ (num x.time x.uid x.gid x.mode (x.len : Int)) else 6) := hid rfl
  generalize fitsM x = fm at *
  obtain ⟨x0, x1, x2, x3, x4, x5, x6, x7, x8⟩ := x
  simp only [Mem.val] at *
  clear hx
  generalize eerr ⟨#[47, 48]⟩ (num x1 x2 x3 x4 (x6 : Int)) = ee at *
  go_enter Tryz.func80, Tryz.ntmps80
  go_wp2_with fail
  generalize w.alloc (.cells #[.string x0, .int .i64 x1, .int .i64 x2, .int .i64 x3, .int .i64 x4, .slice x5 x6 x7] 49) = w0 at *
  refine (valid_any x0 w0 (by omega)).mono ?_
  rintro e w1 ⟨rfl, hb1⟩
  have hrow1 := (hb1.block w.heap.size (Array.getElem?_eq_some_iff.1 hrow).1).trans hrow
  have hb01 := hb0.trans (hb1.mono hb0.size)
  cases hv : vld (bts x0)
  · rw [hv] at HM
    have e6 : fm = 6 := HM.out
    subst e6
    go_wp2_with fail
    go_ret
    exact ⟨rfl, hb01⟩
  · rw [hv] at HM
    have e6 : fm = ee := HM.out
    subst e6
    have c0 := cell_of_row _ w.heap.size 0 _ _ _ hrow1
    have c1 := cell_of_row _ w.heap.size 1 _ _ _ hrow1
    have c2 := cell_of_row _ w.heap.size 2 _ _ _ hrow1
    have c3 := cell_of_row _ w.heap.size 3 _ _ _ hrow1
    have c4 := cell_of_row _ w.heap.size 4 _ _ _ hrow1
    have c5 := cell_of_row _ w.heap.size 5 _ _ _ hrow1
    go_wp2_with fail
    refine (Hh.out _).mono ?_
    rintro e w2 ⟨rfl, hb2⟩
    go_wp2_with fail
    refine (Hf.out _).mono ?_
    rintro e w3 ⟨rfl, hb3⟩
    go_wp2_with fail
    go_ret
    exact ⟨rfl, hb01.trans ((hb2.trans (hb3.mono hb2.size)).mono hb01.size)⟩
end Go.Proofs.YtpedngfmjhpojaaGreatDoor.Arw

namespace Go.Proofs.YtpedngfmjhpojaaGreatDoor.Arw
open Go.RowKit Go.Proofs Go.Proofs.YtpedngfmjhpojaaGreatDoor.Byt Go.Proofs.YtpedngfmjhpojaaGreatDoor.Dec Go.Proofs.YtpedngfmjhpojaaGreatDoor.Lnm Go.Proofs.YtpedngfmjhpojaaGreatDoor.Hdr Go.Proofs.YtpedngfmjhpojaaGreatDoor.Arp

theorem fitL_step {xs : List Mem} {k : Nat} (hk : k < xs.length) : fitL k (xs.drop k) = if fitsM xs[k] = 0 then fitL (k + 1) (xs.drop (k + 1)) else ((k : Int), fitsM xs[k]) := by
  rw [List.drop_eq_getElem_cons hk]
  rfl

set_option maxRecDepth 100000 in
set_option maxHeartbeats 1000000 in
theorem fits5_any (K : Nat) (A : Option Addr) (n c : Nat) (xs : List Mem) (w : World) (h : RdM w K A n xs) (hK : K ≤ w.heap.size) (hok : ∀ x ∈ xs, MOk x) (hn : n ≤ 140737488355328) :
    Calls Tryz.prog 49 #[.slice A n c] w fun e w' => e = .returned (.tuple #[.int .i64 (fitL 0 xs).1, .int .i64 (fitL 0 xs).2]) ∧ Below w.heap.size w w' := by
  have Hl := hid h.1
  go_enter Tryz.func49, Tryz.ntmps49
  go_wp2_with fail
  go_loopw [9] (fun i W => ∃ k : Nat, i = .int .i64 (k : Int) ∧ k ≤ n ∧ Hid (fitL 0 xs = fitL k (xs.drop k)) ∧ Below w.heap.size w W) (fun i _ => n - (intOf i).toNat)
  case atStart => exact ⟨0, rfl, by omega, hid rfl, Below.refl _ _⟩
  case round =>
    obtain ⟨k, rfl, hk, hG, hb⟩ := hrel
    by_cases hlt : k < n
    · have hkl : k < xs.length := by have := Hl.out; omega
      have hki : (k : Int) < (n : Int) := by omega
      have HS := hid (fitL_step hkl)
      have hx := hok xs[k] (List.getElem_mem hkl)
      obtain ⟨⟨b, o, rfl, hbK, hcell⟩, _, _⟩ := (h.below (hb.mono hK)).2 k hkl
      have hb1 := hb.alloc hb.size (.cells #[.string xs[k].name, .int .i64 xs[k].time, .int .i64 xs[k].uid, .int .i64 xs[k].gid, .int .i64 xs[k].mode, .slice xs[k].ptr xs[k].len xs[k].cap] 49)
      have hrow := heap_alloc_new wr (.cells #[.string xs[k].name, .int .i64 xs[k].time, .int .i64 xs[k].uid, .int .i64 xs[k].gid, .int .i64 xs[k].mode, .slice xs[k].ptr xs[k].len xs[k].cap] 49)
      generalize xs[k] = x at *
      have Hm := hid fun W => memberFits_any x W hx
      clear hx
      generalize fitsM x = fm at *
      obtain ⟨x0, x1, x2, x3, x4, x5, x6, x7, x8⟩ := x
      obtain ⟨p0, p1, p2, p3, p4, p5⟩ := hcell
      simp only [Mem.val] at *
      have HB := hid hb
      clear hb
      go_upto_region 4 with fail
      generalize wr.alloc (.cells #[.string x0, .int .i64 x1, .int .i64 x2, .int .i64 x3, .int .i64 x4, .slice x5 x6 x7] 49) = w1 at *
      generalize wr.heap.size = g at *
      have c0 := cell_of_row _ g 0 _ _ _ hrow
      have c1 := cell_of_row _ g 1 _ _ _ hrow
      have c2 := cell_of_row _ g 2 _ _ _ hrow
      have c3 := cell_of_row _ g 3 _ _ _ hrow
      have c4 := cell_of_row _ g 4 _ _ _ hrow
      have c5 := cell_of_row _ g 5 _ _ _ hrow
      go_wp2_with fail
      refine (Hm.out _).mono ?_
      rintro e w2 ⟨rfl, hb2⟩
      have hb02 := hb1.trans (hb2.mono hb1.size)
      clear c0 c1 c2 c3 c4 c5 hrow hb1 hb2 p0 p1 p2 p3 p4 p5
      by_cases hz : fm = 0
      · have HR : Hid (fitL 0 xs = fitL (k + 1) (xs.drop (k + 1))) := hid (by rw [hG.out, HS.out, if_pos hz])
        go_wp2_with fail
        go_roundw
        all_goals first
          | exact ⟨k + 1, by go_num, by omega, HR, hb02⟩
          | (simp [intOf]; omega)
      · have HR : Hid (fitL 0 xs = ((k : Int), fm)) := hid (by rw [hG.out, HS.out, if_neg hz])
        go_wp2_with fail
        go_ret2
        exact ⟨by rw [HR.out]; rfl, hb02⟩
    · obtain rfl : k = n := by omega
      have HR : Hid (fitL 0 xs = (-1, 0)) := hid (by rw [hG.out, List.drop_eq_nil_of_le (by have := Hl.out; omega)]; rfl)
      go_wp2_with fail
      go_ret2
      exact ⟨by rw [HR.out]; rfl, hb⟩

set_option maxRecDepth 100000 in
theorem partSize_any (n : Nat) (hn : n ≤ 1000000) (w : World) :
    Calls Tryz.prog 82 #[.int .i64 (n : Int)] w fun e w' => e = .returned (.int .i64 ((60 + n + n % 2 : Nat) : Int)) ∧ w' = w := by
  have h1 : IntKind.i64.wrap (60 + (n : Int)) = 60 + (n : Int) := by rw [IntKind.wrap_i64]; omega
  have h2 : (n : Int).tmod 2 = ((n % 2 : Nat) : Int) := rfl
  have h3 : IntKind.i64.wrap ((n % 2 : Nat) : Int) = ((n % 2 : Nat) : Int) := by rw [IntKind.wrap_i64]; omega
  have h4 : IntKind.i64.wrap (60 + (n : Int) + ((n % 2 : Nat) : Int)) = ((60 + n + n % 2 : Nat) : Int) := by rw [IntKind.wrap_i64]; omega
  generalize hq : ((n % 2 : Nat) : Int) = q at *
  generalize hp : ((60 + n + n % 2 : Nat) : Int) = p at *
  clear hq hp
  go_enter Tryz.func82, Tryz.ntmps82
  go_wp2_with fail
  go_ret
  exact ⟨rfl, rfl⟩

set_option maxRecDepth 100000 in
set_option maxHeartbeats 1000000 in
theorem rfits5_any (K : Nat) (A : Option Addr) (n c : Nat) (xs : List Mem) (w : World) (h : RdM w K A n xs) (hK : K ≤ w.heap.size) (hok : ∀ x ∈ xs, MOk x) (hn : n ≤ 140737488355328) :
    Calls Tryz.prog 24 #[.slice A n c] w fun e w' => e = .returned (.tuple #[.int .i64 (fitL 0 xs).1, .int .i64 (fitL 0 xs).2]) ∧ Below w.heap.size w w' := by
  have Hl := hid h.1
  go_enter Tryz.func24, Tryz.ntmps24
  go_wp2_with fail
  go_loopw [4] (fun i W => ∃ k : Nat, i = .int .i64 (k : Int) ∧ k ≤ n ∧ Hid (fitL 0 xs = fitL k (xs.drop k)) ∧ Below w.heap.size w W) (fun i _ => n - (intOf i).toNat)
  case atStart => exact ⟨0, rfl, by omega, hid rfl, Below.refl _ _⟩
  case round =>
    obtain ⟨k, rfl, hk, hG, hb⟩ := hrel
    by_cases hlt : k < n
    · have hkl : k < xs.length := by have := Hl.out; omega
      have hki : (k : Int) < (n : Int) := by omega
      have HS := hid (fitL_step hkl)
      have hx := hok xs[k] (List.getElem_mem hkl)
      obtain ⟨⟨b, o, rfl, hbK, hcell⟩, _, _⟩ := (h.below (hb.mono hK)).2 k hkl
      have hb1 := hb.alloc hb.size (.cells #[.string xs[k].name, .int .i64 xs[k].time, .int .i64 xs[k].uid, .int .i64 xs[k].gid, .int .i64 xs[k].mode, .slice xs[k].ptr xs[k].len xs[k].cap] 49)
      have hrow := heap_alloc_new wr (.cells #[.string xs[k].name, .int .i64 xs[k].time, .int .i64 xs[k].uid, .int .i64 xs[k].gid, .int .i64 xs[k].mode, .slice xs[k].ptr xs[k].len xs[k].cap] 49)
      generalize xs[k] = x at *
      have hx1 := hx.name
      have hx2 := hx.len
      have He := hid fun W => rencode_any ⟨#[97]⟩ x.time x.uid x.gid x.mode (x.len : Int) W (by decide) hx.t hx.u hx.g hx.m (by omega)
      have HM : Hid (fitsM x = if vld (bts x.name) = true then eerr ⟨#[47, 48]⟩ (num x.time x.uid x.gid x.mode (x.len : Int)) else 6) := hid rfl
      have H09 := hid (eerr_09 (num x.time x.uid x.gid x.mode (x.len : Int)))
      unfold Encodes at He
      simp only [eerr_a] at He
      clear hx
      generalize fitsM x = fm at *
      obtain ⟨x0, x1, x2, x3, x4, x5, x6, x7, x8⟩ := x
      obtain ⟨p0, p1, p2, p3, p4, p5⟩ := hcell
      simp only at *
      generalize eerr ⟨#[47, 48]⟩ (num x1 x2 x3 x4 (x6 : Int)) = ee at *
      have HB := hid hb
      clear hb
      go_upto_region 5 with fail
      generalize wr.alloc (.cells #[.string x0, .int .i64 x1, .int .i64 x2, .int .i64 x3, .int .i64 x4, .slice x5 x6 x7] 49) = w1 at *
      generalize wr.heap.size = g at *
      have c0 := cell_of_row _ g 0 _ _ _ hrow
      go_wp2_with fail
      refine (rvalid_any x0 w1 (by omega)).mono ?_
      rintro e w2 ⟨rfl, m2, hw2⟩
      have hrow2 := (show w2.heap[g]? = w1.heap[g]? by rw [hw2]; rfl).trans hrow
      have hb2 : Below w.heap.size w w2 := by rw [hw2]; exact hb1.trans ⟨rfl, rfl, rfl, Nat.le_refl _, fun _ _ => rfl⟩
      clear hw2 c0 hrow hb1
      cases hv : vld (bts x0)
      · rw [hv] at HM
        have e6 : fm = 6 := HM.out
        subst e6
        have HR : Hid (fitL 0 xs = ((k : Int), 6)) := hid (by rw [hG.out, HS.out, if_neg (by decide)])
        go_wp2_with fail
        go_ret2
        exact ⟨by rw [HR.out]; rfl, hb2⟩
      · rw [hv] at HM
        have e6 : fm = ee := HM.out
        subst e6
        have c1 := cell_of_row _ g 1 _ _ _ hrow2
        have c2 := cell_of_row _ g 2 _ _ _ hrow2
        have c3 := cell_of_row _ g 3 _ _ _ hrow2
        have c4 := cell_of_row _ g 4 _ _ _ hrow2
        have c5 := cell_of_row _ g 5 _ _ _ hrow2
        go_wp2_with fail
        refine (He.out _).mono ?_
        rintro e w3 ⟨v, rfl, _, hb3⟩
        have hb03 := hb2.trans (hb3.mono hb2.size)
        clear c1 c2 c3 c4 c5 hrow2 hb2 hb3 p0 p1 p2 p3 p4 p5
        by_cases hz : fm = 0
        · have HR : Hid (fitL 0 xs = fitL (k + 1) (xs.drop (k + 1))) := hid (by rw [hG.out, HS.out, if_pos hz])
          go_wp2_with fail
          go_roundw
          all_goals first
            | exact ⟨k + 1, by go_num, by omega, HR, hb03⟩
            | (simp [intOf]; omega)
        · have h9 : fm = 9 := by rcases H09.out with q | q; exact absurd q hz; exact q
          subst h9
          have HR : Hid (fitL 0 xs = ((k : Int), 9)) := hid (by rw [hG.out, HS.out, if_neg hz])
          go_wp2_with fail
          go_ret2
          exact ⟨by rw [HR.out]; rfl, hb03⟩
    · obtain rfl : k = n := by omega
      have HR : Hid (fitL 0 xs = (-1, 0)) := hid (by rw [hG.out, List.drop_eq_nil_of_le (by have := Hl.out; omega)]; rfl)
      go_wp2_with fail
      go_ret2
      exact ⟨by rw [HR.out]; rfl, hb⟩
end Go.Proofs.YtpedngfmjhpojaaGreatDoor.Arw
