/-
  arwrite: which members fit (mathematics); memberHeader, memberFits, Fits, partSize; the reference's Fits; few members.
  arwrite: Fits, partSize; the reference's Fits; few members.
  arwrite: make of strings and numbers; longNames, Offsets.
  arwrite: Offsets; few members.
  The reference's bound on members: few of them, and small.
-/
import Derived.Test.YtijggpahijhpeaaZHde
import Derived.Test.YtijggpahijhpeaaZMf
import Derived.Test.YtijggpahijhpeaaZMk
import Derived.Test.YtijggpahijhpeaaZP4z
import Derived.Deep.CutRange
import Derived.Deep.DeepMust
namespace Go.Proofs.Ytijggpahijhpeaa.Arw
open Go.RowKit Go.Proofs Go.Proofs.Ytijggpahijhpeaa.Byt Go.Proofs.Ytijggpahijhpeaa.Dec Go.Proofs.Ytijggpahijhpeaa.Lnm Go.Proofs.Ytijggpahijhpeaa.Hdr Go.Proofs.Ytijggpahijhpeaa.Arp

/-- A member whose parts are small, and whose numbers are numbers. -/
structure MOk (x : Mem) : Prop where
  name : x.name.size ≤ 300
  len : x.len ≤ 20000
  t : x.time < 9223372036854775808
  u : x.uid < 9223372036854775808
  g : x.gid < 9223372036854775808
  m : x.mode < 9223372036854775808
end Go.Proofs.Ytijggpahijhpeaa.Arw

namespace Go.Proofs.Ytijggpahijhpeaa.Arw
open Go.RowKit Go.Proofs Go.Proofs.Ytijggpahijhpeaa.Byt Go.Proofs.Ytijggpahijhpeaa.Dec Go.Proofs.Ytijggpahijhpeaa.Lnm Go.Proofs.Ytijggpahijhpeaa.Hdr Go.Proofs.Ytijggpahijhpeaa.Arp

end Go.Proofs.Ytijggpahijhpeaa.Arw

namespace Go.Proofs.Ytijggpahijhpeaa.Sls
open Go.RowKit Go.Proofs
end Go.Proofs.Ytijggpahijhpeaa.Sls

namespace Go.Proofs.Ytijggpahijhpeaa.Cel
open Go.RowKit Go.Proofs
end Go.Proofs.Ytijggpahijhpeaa.Cel

namespace Go.Proofs.Ytijggpahijhpeaa.Arw
open Go.RowKit Go.Proofs Go.Proofs.Ytijggpahijhpeaa.Byt Go.Proofs.Ytijggpahijhpeaa.Dec Go.Proofs.Ytijggpahijhpeaa.Lnm Go.Proofs.Ytijggpahijhpeaa.Hdr Go.Proofs.Ytijggpahijhpeaa.Arp

def nms (xs : List Mem) : List ByteArray := xs.map (·.name)
end Go.Proofs.Ytijggpahijhpeaa.Arw

namespace Go.Proofs.Ytijggpahijhpeaa.Arw
open Go.RowKit Go.Proofs Go.Proofs.Ytijggpahijhpeaa.Byt Go.Proofs.Ytijggpahijhpeaa.Dec Go.Proofs.Ytijggpahijhpeaa.Lnm Go.Proofs.Ytijggpahijhpeaa.Hdr Go.Proofs.Ytijggpahijhpeaa.Arp

def pz (n : Nat) : Nat := 60 + n + n % 2
def base (hm : Bool) (ms : Nat) (xs : List Mem) : Nat := 8 + (if hm = true then pz ms else 0) + (if (bo (nms xs)).length = 0 then 0 else pz (bo (nms xs)).length)
end Go.Proofs.Ytijggpahijhpeaa.Arw

namespace Go.Proofs.Ytijggpahijhpeaa.Arw
open Go.RowKit Go.Proofs Go.Proofs.Ytijggpahijhpeaa.Byt Go.Proofs.Ytijggpahijhpeaa.Dec Go.Proofs.Ytijggpahijhpeaa.Lnm Go.Proofs.Ytijggpahijhpeaa.Hdr Go.Proofs.Ytijggpahijhpeaa.Arp

/-- Members as arguments: their data may be of any size. -/
def RdM0 (w : World) (K : Nat) (A : Option Addr) (n : Nat) (xs : List Mem) : Prop :=
  xs.length = n ∧ ∀ k (h : k < xs.length), (∃ b o : Nat, A = some ⟨b, o, none⟩ ∧ b < K ∧ MCells w b (o + k * 6) xs[k]) ∧ Byt.Rd w K xs[k].ptr xs[k].len xs[k].data
theorem RdM0.nil (w : World) (K : Nat) (A : Option Addr) : RdM0 w K A 0 [] := ⟨rfl, fun k hk => absurd hk (by simp)⟩
theorem RdM0.below {w w' : World} {K n : Nat} {A : Option Addr} {xs : List Mem} (h : RdM0 w K A n xs) (hb : Below K w w') : RdM0 w' K A n xs :=
  ⟨h.1, fun k hk => by
    obtain ⟨⟨b, o, e, hl, hc⟩, hr⟩ := h.2 k hk
    exact ⟨⟨b, o, e, hl, hc.below hb hl⟩, hr.below hb⟩⟩
theorem RdM0.to {w : World} {K n : Nat} {A : Option Addr} {xs : List Mem} (h : RdM0 w K A n xs) (hs : ∀ x ∈ xs, x.len ≤ 1000) : RdM w K A n xs :=
  ⟨h.1, fun k hk => by
    obtain ⟨h1, h2⟩ := h.2 k hk
    have := hs xs[k] (List.getElem_mem hk)
    exact ⟨h1, h2, by omega⟩⟩
theorem RdM0.of {w : World} {K n : Nat} {A : Option Addr} {xs : List Mem} (h : RdM w K A n xs) : RdM0 w K A n xs :=
  ⟨h.1, fun k hk => by
    obtain ⟨h1, h2, _⟩ := h.2 k hk
    exact ⟨h1, h2⟩⟩
def okSize (x : Mem) : Bool := decide (x.name.size ≤ 300) && decide (x.len ≤ 1000)
def lens (xs : List Mem) : Nat := (xs.map (·.len)).sum
def fewM (xs : List Mem) : Bool := (xs.take 21).all okSize && (decide (xs.length ≤ 20) && decide (lens (xs.take 21) ≤ 5000))
theorem fewM_iff {xs : List Mem} : fewM xs = true ↔ xs.length ≤ 20 ∧ lens xs ≤ 5000 ∧ ∀ x ∈ xs, x.name.size ≤ 300 ∧ x.len ≤ 1000 := by
  unfold fewM
  rw [Bool.and_eq_true, Bool.and_eq_true, decide_eq_true_eq, decide_eq_true_eq, List.all_eq_true]
  constructor
  · rintro ⟨h1, h2, h3⟩
    rw [List.take_of_length_le (by omega)] at h1 h3
    exact ⟨h2, h3, fun x hx => by simpa [okSize] using h1 x hx⟩
  · rintro ⟨h2, h3, h1⟩
    rw [List.take_of_length_le (by omega)]
    exact ⟨fun x hx => by simpa [okSize] using h1 x hx, h2, h3⟩
theorem lens_succ {xs : List Mem} {k : Nat} (hk : k < xs.length) : lens (xs.take (k + 1)) = lens (xs.take k) + xs[k].len := by
  unfold lens
  rw [List.take_succ_eq_append_getElem hk, List.map_append, List.sum_append]
  simp
theorem lens_le : ∀ {xs : List Mem}, (∀ x ∈ xs, x.len ≤ 1000) → lens xs ≤ xs.length * 1000
  | [], _ => by simp [lens]
  | x :: xs, h => by
    have h1 := lens_le (xs := xs) fun y hy => h y (List.mem_cons_of_mem _ hy)
    have h2 := h x List.mem_cons_self
    have e : lens (x :: xs) = x.len + lens xs := by simp [lens]
    rw [e, List.length_cons]
    omega

set_option maxRecDepth 100000 in
set_option maxHeartbeats 1000000 in
theorem few5_any (K : Nat) (A : Option Addr) (n c : Nat) (xs : List Mem) (w : World) (h : RdM0 w K A n xs) (hK : K ≤ w.heap.size) :
    Calls Try.prog 9 #[.slice A n c] w fun e w' => e = .returned (.bool (fewM xs)) ∧ Below w.heap.size w w' := by
  have Hl := hid h.1
  have hfm : Hid (fewM xs = ((xs.take 21).all okSize && (decide (xs.length ≤ 20) && decide (lens (xs.take 21) ≤ 5000)))) := hid rfl
  generalize fewM xs = fm at *
  go_enter Try.func9, Try.ntmps9
  go_wp2_with fail
  go_loopw [3, 4] (fun s i W => ∃ k : Nat, s = .int .i64 (lens (xs.take k) : Int) ∧ i = .int .i64 (k : Int) ∧ k ≤ n ∧ k ≤ 21 ∧ Hid ((xs.take k).all okSize = true) ∧ Below w.heap.size w W) (fun _ i _ => n - (intOf i).toNat)
  case atStart => exact ⟨0, by simp [lens], rfl, by omega, by omega, hid rfl, Below.refl _ _⟩
  case round =>
    obtain ⟨k, rfl, rfl, hk, hk2, hG, hb⟩ := hrel
    have hle : lens (xs.take k) ≤ 21000 := by
      have h1 := lens_le (xs := xs.take k) fun x hx => by
        have := List.all_eq_true.1 hG.out x hx
        simp [okSize] at this
        exact this.2
      have h2 := List.length_take_le k xs
      omega
    by_cases hlt : k < n
    · have hkl : k < xs.length := by have := Hl.out; omega
      have hki : (k : Int) < (n : Int) := by omega
      by_cases h20 : k ≤ 20
      · have h20i : (k : Int) ≤ 20 := by omega
        obtain ⟨⟨b, o, rfl, hbK, hcell⟩, hxl⟩ := (h.below (hb.mono hK)).2 k hkl
        have HL := hid (lens_succ hkl)
        have HA : Hid ((xs.take (k + 1)).all okSize = okSize xs[k]) := hid (by rw [List.take_succ_eq_append_getElem hkl, List.all_append, hG.out]; simp)
        have HB : Hid (okSize xs[k] = false → fm = false) := hid fun q => by
          rw [hfm.out]
          have hm : xs[k] ∈ xs.take 21 := by
            rw [List.mem_iff_getElem]
            exact ⟨k, by rw [List.length_take]; omega, by rw [List.getElem_take]⟩
          have : (xs.take 21).all okSize = false := by
            cases q2 : (xs.take 21).all okSize
            · rfl
            · have := List.all_eq_true.1 q2 _ hm
              rw [q] at this; cases this
          rw [this, Bool.false_and]
        have HO : Hid (okSize xs[k] = (decide (xs[k].name.size ≤ 300) && decide (xs[k].len ≤ 1000))) := hid rfl
        generalize okSize xs[k] = ok at *
        generalize xs[k] = x at *
        obtain ⟨x0, x1, x2, x3, x4, x5, x6, x7, x8⟩ := x
        obtain ⟨p0, p1, p2, p3, p4, p5⟩ := hcell
        simp only at *
        by_cases hn3 : x0.size ≤ 300
        · have hn3i : ¬ (300 : Int) < (x0.size : Int) := by omega
          by_cases hl3 : x6 ≤ 1000
          · have hl3i : ¬ (1000 : Int) < (x6 : Int) := by omega
            have HA' : Hid ((xs.take (k + 1)).all okSize = true) := hid (by rw [HA.out, HO.out]; simp [hn3, hl3])
            have hw : IntKind.i64.wrap ((lens (xs.take k) : Int) + (x6 : Int)) = (lens (xs.take (k + 1)) : Int) := by rw [IntKind.wrap_i64, HL.out]; omega
            generalize (lens (xs.take k) : Int) = sk at *
            obtain ⟨sn, hsn⟩ : ∃ sn : Int, (lens (xs.take (k + 1)) : Int) = sn := ⟨_, rfl⟩
            have HSN := hid hsn
            rw [hsn] at hw
            clear hsn hle hn3 hl3 hxl
            go_wp2_with fail
            go_roundw
            all_goals first
              | exact ⟨k + 1, by rw [HSN.out], by go_num, by omega, by omega, HA', hb⟩
              | (simp [intOf]; omega)
          · have hl3i : (1000 : Int) < (x6 : Int) := by omega
            have HF : Hid (fm = false) := hid (HB.out (by rw [HO.out]; simp [hl3]))
            clear hn3 hl3 hxl
            go_wp2_with fail
            go_ret
            exact ⟨by rw [HF.out]; rfl, hb⟩
        · have hn3i : (300 : Int) < (x0.size : Int) := by omega
          have HF : Hid (fm = false) := hid (HB.out (by rw [HO.out]; simp [hn3]))
          clear hn3 hxl
          go_wp2_with fail
          go_ret
          exact ⟨by rw [HF.out]; rfl, hb⟩
      · have h20i : ¬ (k : Int) ≤ 20 := by omega
        have hn20 : ¬ (n : Int) ≤ 20 := by omega
        have HF : Hid (fm = false) := hid (by rw [hfm.out]; have := Hl.out; simp; omega)
        go_wp2_with fail
        go_ret
        exact ⟨by rw [HF.out]; rfl, hb⟩
    · obtain rfl : k = n := by omega
      have hT : xs.take k = xs.take 21 := by rw [List.take_of_length_le (by have := Hl.out; omega), List.take_of_length_le (by have := Hl.out; omega)]
      rw [hT] at hG hle ⊢
      have HF : Hid (fm = (decide (k ≤ 20) && decide (lens (xs.take 21) ≤ 5000))) := hid (by rw [hfm.out, hG.out, Hl.out]; rfl)
      generalize lens (xs.take 21) = sm at *
      by_cases hn20 : k ≤ 20
      · have hn20i : (k : Int) ≤ 20 := by omega
        by_cases hs5 : sm ≤ 5000
        · have hs5i : (sm : Int) ≤ 5000 := by omega
          have HF' : Hid (fm = true) := hid (by rw [HF.out]; simp [hn20, hs5])
          clear hn20 hs5 hT
          go_wp2_with fail
          go_ret
          exact ⟨by rw [HF'.out]; rfl, hb⟩
        · have hs5i : ¬ (sm : Int) ≤ 5000 := by omega
          have HF' : Hid (fm = false) := hid (by rw [HF.out]; simp [hs5])
          clear hn20 hs5 hT
          go_wp2_with fail
          go_ret
          exact ⟨by rw [HF'.out]; rfl, hb⟩
      · have hn20i : ¬ (k : Int) ≤ 20 := by omega
        have HF' : Hid (fm = false) := hid (by rw [HF.out]; simp [hn20])
        clear hn20 hT
        go_wp2_with fail
        go_ret
        exact ⟨by rw [HF'.out]; rfl, hb⟩
end Go.Proofs.Ytijggpahijhpeaa.Arw
