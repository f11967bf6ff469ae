/-
  The frame of the laws of arwrite: members as arguments.
-/
import Derived.Test.YtjobmkodgodloaaGreatDoorYMo
import Derived.Test.YtjobmkodgodloaaGreatDoorYWa
import Derived.Deep.Fields
import Derived.Deep.Slices
namespace Go.Proofs.YtjobmkodgodloaaGreatDoor.Frame
open Go.ChangeShapes Go.WideShapes Go.ChangeAt Go.RowKit Go.Proofs Go.Deep
set_option maxRecDepth 100000

theorem bytes_of {H : Type} {enc : TypeId × Value → H} {W : World} {fuel : Nat} {A : Option Addr} {n c : Nat} {x : DataW H × List MemPlace} (hf : DataW.trod enc Tryz.prog W 0 (fun _ => true) true fuel 22 [.slice A n c] = some x) :
   ∃ A' n' c' l, Value.slice A n c = .slice A' n' c' ∧ Byt.Rd W W.heap.size A' n' l ∧ n' ≤ c' ∧ c' ≤ maxLen := by
 rcases open_ints Tryz.underlying22 Tryz.underlying5 (by kernel_rfl) hf with ⟨hcs, _⟩ | ⟨x, l, c', zs, hcs, _, hl, hm, hz, _, hcell, hwz⟩
 · simp at hcs
   obtain ⟨rfl, rfl, rfl⟩ := hcs
   exact ⟨_, _, _, [], rfl, Byt.Rd.nil _ _ _, by omega, by unfold maxLen; omega⟩
 · simp at hcs
   obtain ⟨rfl, rfl, rfl⟩ := hcs
   have hz' : zs.length = c := by simpa using hz
   refine ⟨_, _, _, (zs.take n).map (fun z => UInt8.ofNat z.toNat), rfl, ⟨by simp; omega, fun k hk => ?_⟩, hl, hm⟩
   have hkn : k < n := by simp at hk; omega
   have hc := hcell k (by omega)
   obtain ⟨b, o, spot⟩ := x
   have hspot : spot = none := by
     have := World.cell?_spot (hcell 0 (by omega))
     simpa [Addr.add] using this
   subst hspot
   have ha : (⟨b, o, none⟩ : Addr).add k = ⟨b, o + k, none⟩ := by unfold Addr.add; split <;> simp_all
   rw [ha] at hc
   have hw := hwz (zs.getD k 0) (by rw [List.getD_eq_getElem?_getD, List.getElem?_eq_getElem (by omega)]; exact List.getElem_mem _)
   have hb : 0 ≤ zs.getD k 0 ∧ zs.getD k 0 ≤ 255 := bounds_u8 hw
   refine ⟨b, o, rfl, World.block_lt_of_cell? _ _ hc, ?_⟩
   rw [hc]
   have hk0 : ((zs.take n).map (fun z => UInt8.ofNat z.toNat))[k] = UInt8.ofNat (zs.getD k 0).toNat := by
     simp [List.getD_eq_getElem?_getD, List.getElem?_eq_getElem (show k < zs.length by omega)]
   rw [hk0, UInt8.toNat_ofNat']
   congr 2
   omega

theorem listed {α : Type} {p : Nat → α → Prop} : ∀ n : Nat, (∀ i, i < n → ∃ y, p i y) → ∃ xs : List α, xs.length = n ∧ ∀ k (h : k < xs.length), p k xs[k]
 | 0, _ => ⟨[], rfl, fun k h => absurd h (by simp)⟩
 | n + 1, h => by
   obtain ⟨xs, hl, hx⟩ := listed n fun i hi => h i (by omega)
   obtain ⟨y, hy⟩ := h n (by omega)
   refine ⟨xs ++ [y], by simp [hl], fun k hk => ?_⟩
   by_cases hkn : k < n
   · rw [List.getElem_append_left (by omega)]
     exact hx k (by omega)
   · rw [List.length_append, List.length_singleton] at hk
     obtain rfl : k = xs.length := by omega
     rw [List.getElem_append_right (Nat.le_refl _)]
     simpa [hl] using hy

theorem open_bytes_at {H : Type} {enc : TypeId × Value → H} {W : World} {fuel : Nat} {v : Value} {x : DataW H × List MemPlace} (hf : DataW.trod enc Tryz.prog W 0 (fun _ => true) true fuel 22 [v] = some x) :
   ∃ A n c l, v = .slice A n c ∧ Byt.Rd W W.heap.size A n l ∧ n ≤ c ∧ c ≤ maxLen := by
 obtain ⟨A, n, c, rfl⟩ : ∃ A n c, v = .slice A n c := by
   rcases open_ints Tryz.underlying22 Tryz.underlying5 (by kernel_rfl) hf with ⟨hcs, _⟩ | ⟨x, l, c', zs, hcs, _⟩
   · injection hcs with hcs; exact ⟨_, _, _, hcs⟩
   · injection hcs with hcs; exact ⟨_, _, _, hcs⟩
 exact bytes_of hf

def MB (x : Arp.Mem) : Prop := x.name.size ≤ maxLen ∧ (-9223372036854775808 ≤ x.time ∧ x.time < 9223372036854775808) ∧ (-9223372036854775808 ≤ x.uid ∧ x.uid < 9223372036854775808) ∧ (-9223372036854775808 ≤ x.gid ∧ x.gid < 9223372036854775808) ∧ (-9223372036854775808 ≤ x.mode ∧ x.mode < 9223372036854775808) ∧ (x.len ≤ x.cap ∧ x.cap ≤ maxLen)
theorem open_mems_at {H : Type} {enc : TypeId × Value → H} {W : World} {fuel : Nat} {v : Value} {x : DataW H × List MemPlace} (hf : DataW.trod enc Tryz.prog W 0 (fun _ => true) true fuel 24 [v] = some x) :
   ∃ A n c xs, v = .slice A n c ∧ Arw.RdM0 W W.heap.size A n xs ∧ n ≤ c ∧ c ≤ maxLen ∧ ∀ x ∈ xs, MB x := by
 rcases Go.Deep.open_slice Tryz.underlying24 hf with ⟨hcs, _⟩ | ⟨a, len, cap, m, n', D, Pl, hcs, _, hl, hm, hmm, _, hi⟩
 · injection hcs with hcs
   exact ⟨none, 0, 0, [], hcs, Arw.RdM0.nil _ _ _, Nat.le_refl _, by unfold maxLen; omega, by simp⟩
 · injection hcs with hcs
   have hmc : m = cap := by simpa using hmm
   have hsz : Tryz.prog.cellsOf 64 = 6 := by kernel_rfl
   by_cases h0 : len = 0
   · subst h0
     exact ⟨some a, 0, cap, [], hcs, Arw.RdM0.nil _ _ _, hl, hm, by simp⟩
   · obtain ⟨b, o, spot⟩ := a
     have hspot : spot = none := by
       obtain ⟨cs', hc, _⟩ := hi 0 (by omega)
       rw [hsz] at hc
       obtain ⟨_, hlen, hat⟩ := World.cells?_some hc
       have h1 := hat 0 (by omega)
       rw [List.getElem?_eq_getElem (by omega)] at h1
       have := World.cell?_spot h1
       simpa [Addr.add] using this
     subst hspot
     have ha : ∀ i j, ((⟨b, o, none⟩ : Addr).add i).add j = ⟨b, o + i + j, none⟩ := fun i j => by
       unfold Addr.add
       split <;> split <;> simp_all
     have key : ∀ i, i < len → ∃ y : Arp.Mem, (b < W.heap.size ∧ Arp.MCells W b (o + i * 6) y) ∧ Byt.Rd W W.heap.size y.ptr y.len y.data ∧ MB y := fun i hil => by
       obtain ⟨cs', hc, ht⟩ := hi i (by omega)
       rw [hsz] at hc
       obtain ⟨ys, k, _, _, hcl, hyl, hg⟩ := DataW.trod_struct Tryz.underlying64 ht
       obtain ⟨_, _, hat⟩ := World.cells?_some hc
       rw [hsz] at hcl
       match cs', hcl with
       | [c0, c1, c2, c3, c4, c5], _ =>
         have hone : oneCellFields Tryz.prog _ = true := (by kernel_rfl : oneCellFields Tryz.prog (match Tryz.prog.underlying 64 with | some (.struct fs) => fs | _ => #[]) = true)
         obtain ⟨y0, g0⟩ := one_field hone hyl hg 0 _ rfl c0 rfl
         obtain ⟨y1, g1⟩ := one_field hone hyl hg 1 _ rfl c1 rfl
         obtain ⟨y2, g2⟩ := one_field hone hyl hg 2 _ rfl c2 rfl
         obtain ⟨y3, g3⟩ := one_field hone hyl hg 3 _ rfl c3 rfl
         obtain ⟨y4, g4⟩ := one_field hone hyl hg 4 _ rfl c4 rfl
         obtain ⟨y5, g5⟩ := one_field hone hyl hg 5 _ rfl c5 rfl
         obtain ⟨s, e0, _, hs⟩ := DataW.trod_string Tryz.underlying9 g0
         obtain ⟨t, e1, _, b1⟩ := DataW.trod_int Tryz.underlying3 g1
         obtain ⟨u, e2, _, b2⟩ := DataW.trod_int Tryz.underlying3 g2
         obtain ⟨g, e3, _, b3⟩ := DataW.trod_int Tryz.underlying3 g3
         obtain ⟨z, e4, _, b4⟩ := DataW.trod_int Tryz.underlying3 g4
         obtain ⟨P, d, e, l, rfl, h5, hde, hem⟩ := open_bytes_at g5
         injection e0 with e0; injection e1 with e1; injection e2 with e2; injection e3 with e3; injection e4 with e4
         subst e0; subst e1; subst e2; subst e3; subst e4
         have h0 := hat 0 (by omega)
         have h1 := hat 1 (by omega)
         have h2 := hat 2 (by omega)
         have h3 := hat 3 (by omega)
         have h4 := hat 4 (by omega)
         have h6 := hat 5 (by omega)
         rw [ha] at h0 h1 h2 h3 h4 h6
         have k1 := bounds_i64 b1
         have k2 := bounds_i64 b2
         have k3 := bounds_i64 b3
         have k4 := bounds_i64 b4
         exact ⟨⟨s, t, u, g, z, P, d, e, l⟩, ⟨World.block_lt_of_cell? _ _ (h0.trans rfl), h0, h1, h2, h3, h4, h6⟩, h5, hs, ⟨by show (-9223372036854775808 : Int) ≤ t; omega, by show t < 9223372036854775808; omega⟩, ⟨by show (-9223372036854775808 : Int) ≤ u; omega, by show u < 9223372036854775808; omega⟩, ⟨by show (-9223372036854775808 : Int) ≤ g; omega, by show g < 9223372036854775808; omega⟩, ⟨by show (-9223372036854775808 : Int) ≤ z; omega, by show z < 9223372036854775808; omega⟩, hde, hem⟩
     obtain ⟨xs, hxl, hx⟩ := listed len key
     refine ⟨_, len, cap, xs, hcs, ⟨hxl, fun k hk => ?_⟩, hl, hm, fun x hx' => ?_⟩
     · obtain ⟨⟨hb, hc⟩, hr, _⟩ := hx k hk
       exact ⟨⟨b, o, rfl, hb, hc⟩, hr⟩
     · obtain ⟨k, hk, rfl⟩ := List.mem_iff_getElem.1 hx'
       exact (hx k hk).2.2
theorem open_mems {H : Type} {enc : TypeId × Value → H} {W : World} {base : Nat} {v : Value} {d : DataW H} {p : List MemPlace} (hok : Value.okWide Tryz.prog W .any base 24 v)
   (ht : DataW.Trod enc Tryz.prog W 0 (fun _ => true) true 24 v d p) : ∃ A n c xs, v = .slice A n c ∧ Arw.RdM0 W W.heap.size A n xs ∧ n ≤ c ∧ c ≤ maxLen ∧ ∀ x ∈ xs, MB x := by
 obtain ⟨A, n, c, rfl⟩ := okWide_slice Tryz.underlying24 hok
 obtain ⟨fuel, hf⟩ := ht
 exact open_mems_at hf
theorem MB.cap {x : Arp.Mem} (h : MB x) : x.len ≤ x.cap ∧ x.cap ≤ maxLen := h.2.2.2.2.2
theorem MB.ok {x : Arp.Mem} (h : MB x) (h1 : x.name.size ≤ 300) (h2 : x.len ≤ 1000) : Arw.MOk x := ⟨h1, h2, h.2.1.2, h.2.2.1.2, h.2.2.2.1.2, h.2.2.2.2.1.2⟩
end Go.Proofs.YtjobmkodgodloaaGreatDoor.Frame
