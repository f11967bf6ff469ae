/-
  arwrite: which members fit (mathematics); memberHeader, memberFits, Fits, partSize; the reference's Fits; few members.
  arwrite: Fits, partSize; the reference's Fits; few members.
  arwrite: make of strings and numbers; longNames, Offsets.
  arwrite: Offsets; few members.
  The reference's bound on members: few of them, and small.
-/
import Derived.Test.YtjobmkodgodloaaGreatDoorZHde
import Derived.Test.YtjobmkodgodloaaGreatDoorZMf
import Derived.Test.YtjobmkodgodloaaGreatDoorZMk
import Derived.Test.YtjobmkodgodloaaGreatDoorZP4z
import Derived.Deep.CutRange
import Derived.Deep.DeepMust
namespace Go.Proofs.YtjobmkodgodloaaGreatDoor.Arw
open Go.RowKit Go.Proofs Go.Proofs.YtjobmkodgodloaaGreatDoor.Byt Go.Proofs.YtjobmkodgodloaaGreatDoor.Dec Go.Proofs.YtjobmkodgodloaaGreatDoor.Lnm Go.Proofs.YtjobmkodgodloaaGreatDoor.Hdr Go.Proofs.YtjobmkodgodloaaGreatDoor.Arp

structure MOk (x : Mem) : Prop where
 name : x.name.size ≤ 300
 len : x.len ≤ 1000
 t : x.time < 9223372036854775808
 u : x.uid < 9223372036854775808
 g : x.gid < 9223372036854775808
 m : x.mode < 9223372036854775808
def fitsM (x : Mem) : Int := if vld (bts x.name) = true then eerr ⟨#[47, 48]⟩ (num x.time x.uid x.gid x.mode (x.len : Int)) else 6
def fitL : Nat → List Mem → Int × Int
 | _, [] => (-1, 0)
 | k, x :: r => if fitsM x = 0 then fitL (k + 1) r else ((k : Int), fitsM x)
theorem eerr_a (f : Nat → Int) : eerr ⟨#[97]⟩ f = eerr ⟨#[47, 48]⟩ f := by
 have h1 : nameOk ⟨#[97]⟩ = true := by decide +kernel
 have h2 : nameOk ⟨#[47, 48]⟩ = true := by decide +kernel
 have h3 : isTab ⟨#[97]⟩ = false := by decide +kernel
 have h4 : isTab ⟨#[47, 48]⟩ = false := by decide +kernel
 have h5 : ∀ k, allOk ⟨#[97]⟩ f k = allOk ⟨#[47, 48]⟩ f k := fun k => by
   induction k with
   | zero => rfl
   | succ k ih => unfold allOk; rw [ih, h3, h4]
 unfold eerr
 rw [if_pos h1, if_pos h2, h5]
theorem eerr_09 (f : Nat → Int) : eerr ⟨#[47, 48]⟩ f = 0 ∨ eerr ⟨#[47, 48]⟩ f = 9 := by
 have h2 : nameOk ⟨#[47, 48]⟩ = true := by decide +kernel
 unfold eerr
 rw [if_pos h2]
 split
 · exact .inl rfl
 · exact .inr rfl

end Go.Proofs.YtjobmkodgodloaaGreatDoor.Arw

namespace Go.Proofs.YtjobmkodgodloaaGreatDoor.Arw
open Go.RowKit Go.Proofs Go.Proofs.YtjobmkodgodloaaGreatDoor.Byt Go.Proofs.YtjobmkodgodloaaGreatDoor.Dec Go.Proofs.YtjobmkodgodloaaGreatDoor.Lnm Go.Proofs.YtjobmkodgodloaaGreatDoor.Hdr Go.Proofs.YtjobmkodgodloaaGreatDoor.Arp

theorem fitL_step {xs : List Mem} {k : Nat} (hk : k < xs.length) : fitL k (xs.drop k) = if fitsM xs[k] = 0 then fitL (k + 1) (xs.drop (k + 1)) else ((k : Int), fitsM xs[k]) := by
 rw [List.drop_eq_getElem_cons hk]
 rfl

set_option maxRecDepth 100000 in
set_option maxHeartbeats 1000000 in
theorem rfits5_any (K : Nat) (A : Option Addr) (n c : Nat) (xs : List Mem) (w : World) (h : RdM w K A n xs) (hK : K ≤ w.heap.size) (hok : ∀ x ∈ xs, MOk x) (hn : n ≤ 140737488355328) :
   Calls Tryz.prog 38 #[.slice A n c] w fun e w' => e = .returned (.tuple #[.int .i64 (fitL 0 xs).1, .int .i64 (fitL 0 xs).2]) ∧ Below w.heap.size w w' := by
 have Hl := hid h.1
 go_enter Tryz.func38, Tryz.ntmps38
 go_wp2_with fail
 go_loopw [4] (fun i W => ∃ k : Nat, i = .int .i64 (k : Int) ∧ k ≤ n ∧ Hid (fitL 0 xs = fitL k (xs.drop k)) ∧ Below w.heap.size w W) (fun i _ => n - (intOf i).toNat)
 case atStart => exact ⟨0, rfl, by omega, hid rfl, Below.refl _ _⟩
 case round =>
   obtain ⟨k, rfl, hk, hG, hb⟩ := hrel
   by_cases hlt : k < n
   · have hkl : k < xs.length := by have := Hl.out; omega
     have hki : (k : Int) < (n : Int) := by omega
     have HS := hid (fitL_step hkl)
     have hx := hok xs[k] (List.getElem_mem hkl)
     obtain ⟨⟨b, o, rfl, hbK, hcell⟩, _, _⟩ := (h.below (hb.mono hK)).2 k hkl
     have hb1 := hb.alloc hb.size (.cells #[.string xs[k].name, .int .i64 xs[k].time, .int .i64 xs[k].uid, .int .i64 xs[k].gid, .int .i64 xs[k].mode, .slice xs[k].ptr xs[k].len xs[k].cap] 64)
     have hrow := heap_alloc_new wr (.cells #[.string xs[k].name, .int .i64 xs[k].time, .int .i64 xs[k].uid, .int .i64 xs[k].gid, .int .i64 xs[k].mode, .slice xs[k].ptr xs[k].len xs[k].cap] 64)
     generalize xs[k] = x at *
     have hx1 := hx.name
     have hx2 := hx.len
     have He := hid fun W => rencode_any ⟨#[97]⟩ x.time x.uid x.gid x.mode (x.len : Int) W (by decide) hx.t hx.u hx.g hx.m (by omega)
     have HM : Hid (fitsM x = if vld (bts x.name) = true then eerr ⟨#[47, 48]⟩ (num x.time x.uid x.gid x.mode (x.len : Int)) else 6) := hid rfl
     have H09 := hid (eerr_09 (num x.time x.uid x.gid x.mode (x.len : Int)))
     unfold Encodes at He
     simp only [eerr_a] at He
     clear hx
     generalize fitsM x = fm at *
     obtain ⟨x0, x1, x2, x3, x4, x5, x6, x7, x8⟩ := x
     obtain ⟨p0, p1, p2, p3, p4, p5⟩ := hcell
     simp only at *
     generalize eerr ⟨#[47, 48]⟩ (num x1 x2 x3 x4 (x6 : Int)) = ee at *
     have HB := hid hb
     clear hb
     go_upto_region 5 with fail
     generalize wr.alloc (.cells #[.string x0, .int .i64 x1, .int .i64 x2, .int .i64 x3, .int .i64 x4, .slice x5 x6 x7] 64) = w1 at *
     generalize wr.heap.size = g at *
     have c0 := cell_of_row _ g 0 _ _ _ hrow
     go_wp2_with fail
     refine (rvalid_any x0 w1 (by omega)).mono ?_
     rintro e w2 ⟨rfl, m2, hw2⟩
     have hrow2 := (show w2.heap[g]? = w1.heap[g]? by rw [hw2]; rfl).trans hrow
     have hb2 : Below w.heap.size w w2 := by rw [hw2]; exact hb1.trans ⟨rfl, rfl, rfl, Nat.le_refl _, fun _ _ => rfl⟩
     clear hw2 c0 hrow hb1
     cases hv : vld (bts x0)
     · rw [hv] at HM
       have e6 : fm = 6 := HM.out
       subst e6
       have HR : Hid (fitL 0 xs = ((k : Int), 6)) := hid (by rw [hG.out, HS.out, if_neg (by decide)])
       go_wp2_with fail
       go_ret2
       exact ⟨by rw [HR.out]; rfl, hb2⟩
     · rw [hv] at HM
       have e6 : fm = ee := HM.out
       subst e6
       have c1 := cell_of_row _ g 1 _ _ _ hrow2
       have c2 := cell_of_row _ g 2 _ _ _ hrow2
       have c3 := cell_of_row _ g 3 _ _ _ hrow2
       have c4 := cell_of_row _ g 4 _ _ _ hrow2
       have c5 := cell_of_row _ g 5 _ _ _ hrow2
       go_wp2_with fail
       refine (He.out _).mono ?_
       rintro e w3 ⟨v, rfl, _, hb3⟩
       have hb03 := hb2.trans (hb3.mono hb2.size)
       clear c1 c2 c3 c4 c5 hrow2 hb2 hb3 p0 p1 p2 p3 p4 p5
       by_cases hz : fm = 0
       · have HR : Hid (fitL 0 xs = fitL (k + 1) (xs.drop (k + 1))) := hid (by rw [hG.out, HS.out, if_pos hz])
         go_wp2_with fail
         go_roundw
         all_goals first
           | exact ⟨k + 1, by go_num, by omega, HR, hb03⟩
           | (simp [intOf]; omega)
       · have h9 : fm = 9 := by rcases H09.out with q | q; exact absurd q hz; exact q
         subst h9
         have HR : Hid (fitL 0 xs = ((k : Int), 9)) := hid (by rw [hG.out, HS.out, if_neg hz])
         go_wp2_with fail
         go_ret2
         exact ⟨by rw [HR.out]; rfl, hb03⟩
   · obtain rfl : k = n := by omega
     have HR : Hid (fitL 0 xs = (-1, 0)) := hid (by rw [hG.out, List.drop_eq_nil_of_le (by have := Hl.out; omega)]; rfl)
     go_wp2_with fail
     go_ret2
     exact ⟨by rw [HR.out]; rfl, hb⟩
end Go.Proofs.YtjobmkodgodloaaGreatDoor.Arw

namespace Go.Proofs.YtjobmkodgodloaaGreatDoor.Sls
open Go.RowKit Go.Proofs
end Go.Proofs.YtjobmkodgodloaaGreatDoor.Sls

namespace Go.Proofs.YtjobmkodgodloaaGreatDoor.Cel
open Go.RowKit Go.Proofs
end Go.Proofs.YtjobmkodgodloaaGreatDoor.Cel

namespace Go.Proofs.YtjobmkodgodloaaGreatDoor.Arw
open Go.RowKit Go.Proofs Go.Proofs.YtjobmkodgodloaaGreatDoor.Byt Go.Proofs.YtjobmkodgodloaaGreatDoor.Dec Go.Proofs.YtjobmkodgodloaaGreatDoor.Lnm Go.Proofs.YtjobmkodgodloaaGreatDoor.Hdr Go.Proofs.YtjobmkodgodloaaGreatDoor.Arp

def nms (xs : List Mem) : List ByteArray := xs.map (·.name)
theorem nms_size {xs : List Mem} (hok : ∀ x ∈ xs, MOk x) : ∀ s ∈ nms xs, s.size ≤ 1000 := fun s hs => by
 obtain ⟨x, hx, rfl⟩ := List.mem_map.1 hs
 have := (hok x hx).name
 omega

end Go.Proofs.YtjobmkodgodloaaGreatDoor.Arw

namespace Go.Proofs.YtjobmkodgodloaaGreatDoor.Arw
open Go.RowKit Go.Proofs Go.Proofs.YtjobmkodgodloaaGreatDoor.Byt Go.Proofs.YtjobmkodgodloaaGreatDoor.Dec Go.Proofs.YtjobmkodgodloaaGreatDoor.Lnm Go.Proofs.YtjobmkodgodloaaGreatDoor.Hdr Go.Proofs.YtjobmkodgodloaaGreatDoor.Arp

def pz (n : Nat) : Nat := 60 + n + n % 2
def offAt (o : Nat) (xs : List Mem) (k : Nat) : Nat := o + ((xs.take k).map (fun x => pz x.len)).sum
def offL (o : Nat) (xs : List Mem) : List Nat := (List.range xs.length).map (offAt o xs)
def base (hm : Bool) (ms : Nat) (xs : List Mem) : Nat := 8 + (if hm = true then pz ms else 0) + (if (bo (nms xs)).length = 0 then 0 else pz (bo (nms xs)).length)
theorem bo_len (ns : List ByteArray) : (bo ns).length ≤ ns.length * 257 := by
 unfold bo
 split
 · rename_i h
   exact tabl_len h (Nat.le_refl _)
 · simp
theorem offAt_succ {o : Nat} {xs : List Mem} {k : Nat} (hk : k < xs.length) : offAt o xs (k + 1) = offAt o xs k + pz xs[k].len := by
 unfold offAt
 rw [List.take_succ_eq_append_getElem hk, List.map_append, List.sum_append]
 simp only [List.map_cons, List.map_nil, List.sum_cons, List.sum_nil]
 omega
theorem offAt_le {o : Nat} {xs : List Mem} (hok : ∀ x ∈ xs, MOk x) : ∀ k, k ≤ xs.length → offAt o xs k ≤ o + k * 1061
 | 0, _ => by simp [offAt]
 | k + 1, h => by
   rw [offAt_succ h]
   have h1 := offAt_le (o := o) hok k (by omega)
   have h2 := (hok xs[k] (List.getElem_mem _)).len
   unfold pz
   omega
theorem base_le {hm : Bool} {ms : Nat} {xs : List Mem} (h1 : ms ≤ 70000) (h2 : xs.length ≤ 20) : base hm ms xs ≤ 100000 := by
 unfold base
 have h3 := bo_len (nms xs)
 have h4 : (nms xs).length = xs.length := by simp [nms]
 have h5 : (if hm = true then pz ms else 0) ≤ 70061 := by split <;> (try unfold pz) <;> omega
 have h6 : (if (bo (nms xs)).length = 0 then 0 else pz (bo (nms xs)).length) ≤ 6000 := by split <;> (try unfold pz) <;> omega
 omega
def ints (l : List Nat) : List Value := l.map fun (o : Nat) => Value.int .i64 (o : Int)
end Go.Proofs.YtjobmkodgodloaaGreatDoor.Arw

namespace Go.Proofs.YtjobmkodgodloaaGreatDoor.Arw
open Go.RowKit Go.Proofs Go.Proofs.YtjobmkodgodloaaGreatDoor.Byt Go.Proofs.YtjobmkodgodloaaGreatDoor.Dec Go.Proofs.YtjobmkodgodloaaGreatDoor.Lnm Go.Proofs.YtjobmkodgodloaaGreatDoor.Hdr Go.Proofs.YtjobmkodgodloaaGreatDoor.Arp

def RdM0 (w : World) (K : Nat) (A : Option Addr) (n : Nat) (xs : List Mem) : Prop :=
 xs.length = n ∧ ∀ k (h : k < xs.length), (∃ b o : Nat, A = some ⟨b, o, none⟩ ∧ b < K ∧ MCells w b (o + k * 6) xs[k]) ∧ Byt.Rd w K xs[k].ptr xs[k].len xs[k].data
theorem RdM0.nil (w : World) (K : Nat) (A : Option Addr) : RdM0 w K A 0 [] := ⟨rfl, fun k hk => absurd hk (by simp)⟩
theorem RdM0.below {w w' : World} {K n : Nat} {A : Option Addr} {xs : List Mem} (h : RdM0 w K A n xs) (hb : Below K w w') : RdM0 w' K A n xs :=
 ⟨h.1, fun k hk => by
   obtain ⟨⟨b, o, e, hl, hc⟩, hr⟩ := h.2 k hk
   exact ⟨⟨b, o, e, hl, hc.below hb hl⟩, hr.below hb⟩⟩
theorem RdM0.to {w : World} {K n : Nat} {A : Option Addr} {xs : List Mem} (h : RdM0 w K A n xs) (hs : ∀ x ∈ xs, x.len ≤ 1000) : RdM w K A n xs :=
 ⟨h.1, fun k hk => by
   obtain ⟨h1, h2⟩ := h.2 k hk
   have := hs xs[k] (List.getElem_mem hk)
   exact ⟨h1, h2, by omega⟩⟩
theorem RdM0.of {w : World} {K n : Nat} {A : Option Addr} {xs : List Mem} (h : RdM w K A n xs) : RdM0 w K A n xs :=
 ⟨h.1, fun k hk => by
   obtain ⟨h1, h2, _⟩ := h.2 k hk
   exact ⟨h1, h2⟩⟩
def okSize (x : Mem) : Bool := decide (x.name.size ≤ 300) && decide (x.len ≤ 1000)
def lens (xs : List Mem) : Nat := (xs.map (·.len)).sum
def fewM (xs : List Mem) : Bool := (xs.take 21).all okSize && (decide (xs.length ≤ 20) && decide (lens (xs.take 21) ≤ 5000))
theorem fewM_iff {xs : List Mem} : fewM xs = true ↔ xs.length ≤ 20 ∧ lens xs ≤ 5000 ∧ ∀ x ∈ xs, x.name.size ≤ 300 ∧ x.len ≤ 1000 := by
 unfold fewM
 rw [Bool.and_eq_true, Bool.and_eq_true, decide_eq_true_eq, decide_eq_true_eq, List.all_eq_true]
 constructor
 · rintro ⟨h1, h2, h3⟩
   rw [List.take_of_length_le (by omega)] at h1 h3
   exact ⟨h2, h3, fun x hx => by simpa [okSize] using h1 x hx⟩
 · rintro ⟨h2, h3, h1⟩
   rw [List.take_of_length_le (by omega)]
   exact ⟨fun x hx => by simpa [okSize] using h1 x hx, h2, h3⟩
end Go.Proofs.YtjobmkodgodloaaGreatDoor.Arw
