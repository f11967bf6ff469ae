/-
  The frame of the laws of arwrite: members as arguments.
-/
import Derived.Test.YtijggpahijhpeaaZMp
import Derived.Test.YtijggpahijhpeaaZWa
import Derived.Deep.Fields
import Derived.Deep.Slices
namespace Go.Proofs.Ytijggpahijhpeaa.Frame
open Go.ChangeShapes Go.WideShapes Go.ChangeAt Go.RowKit Go.Proofs Go.Deep
/-- A member's numbers and name, as they come in. -/
def MB (x : Arp.Mem) : Prop := x.name.size ≤ maxLen ∧ (-9223372036854775808 ≤ x.time ∧ x.time < 9223372036854775808) ∧ (-9223372036854775808 ≤ x.uid ∧ x.uid < 9223372036854775808) ∧ (-9223372036854775808 ≤ x.gid ∧ x.gid < 9223372036854775808) ∧ (-9223372036854775808 ≤ x.mode ∧ x.mode < 9223372036854775808) ∧ (x.len ≤ x.cap ∧ x.cap ≤ maxLen)
/-- Members, as they come in. -/
theorem open_mems_at {H : Type} {enc : TypeId × Value → H} {W : World} {fuel : Nat} {v : Value} {x : DataW H × List MemPlace} (hf : DataW.trod enc Try.prog W 0 (fun _ => true) true fuel 22 [v] = some x) :
    ∃ A n c xs, v = .slice A n c ∧ Arw.RdM0 W W.heap.size A n xs ∧ n ≤ c ∧ c ≤ maxLen ∧ ∀ x ∈ xs, MB x := by
  rcases Go.Deep.open_slice Try.underlying22 hf with ⟨hcs, _⟩ | ⟨a, len, cap, m, n', D, Pl, hcs, _, hl, hm, hmm, _, hi⟩
  · injection hcs with hcs
    exact ⟨none, 0, 0, [], hcs, Arw.RdM0.nil _ _ _, Nat.le_refl _, by unfold maxLen; omega, by simp⟩
  · injection hcs with hcs
    have hmc : m = cap := by simpa using hmm
    have hsz : Try.prog.cellsOf 25 = 6 := by kernel_rfl
    by_cases h0 : len = 0
    · subst h0
      exact ⟨some a, 0, cap, [], hcs, Arw.RdM0.nil _ _ _, hl, hm, by simp⟩
    · obtain ⟨b, o, spot⟩ := a
      have hspot : spot = none := by
        obtain ⟨cs', hc, _⟩ := hi 0 (by omega)
        rw [hsz] at hc
        obtain ⟨_, hlen, hat⟩ := World.cells?_some hc
        have h1 := hat 0 (by omega)
        rw [List.getElem?_eq_getElem (by omega)] at h1
        have := World.cell?_spot h1
        simpa [Addr.add] using this
      subst hspot
      have ha : ∀ i j, ((⟨b, o, none⟩ : Addr).add i).add j = ⟨b, o + i + j, none⟩ := fun i j => by
        unfold Addr.add
        split <;> split <;> simp_all
      have key : ∀ i, i < len → ∃ y : Arp.Mem, (b < W.heap.size ∧ Arp.MCells W b (o + i * 6) y) ∧ Byt.Rd W W.heap.size y.ptr y.len y.data ∧ MB y := fun i hil => by
        obtain ⟨cs', hc, ht⟩ := hi i (by omega)
        rw [hsz] at hc
        obtain ⟨ys, k, _, _, hcl, hyl, hg⟩ := DataW.trod_struct Try.underlying25 ht
        obtain ⟨_, _, hat⟩ := World.cells?_some hc
        rw [hsz] at hcl
        match cs', hcl with
        | [c0, c1, c2, c3, c4, c5], _ =>
          have hone : oneCellFields Try.prog _ = true := (by kernel_rfl : oneCellFields Try.prog (match Try.prog.underlying 25 with | some (.struct fs) => fs | _ => #[]) = true)
          obtain ⟨y0, g0⟩ := one_field hone hyl hg 0 _ rfl c0 rfl
          obtain ⟨y1, g1⟩ := one_field hone hyl hg 1 _ rfl c1 rfl
          obtain ⟨y2, g2⟩ := one_field hone hyl hg 2 _ rfl c2 rfl
          obtain ⟨y3, g3⟩ := one_field hone hyl hg 3 _ rfl c3 rfl
          obtain ⟨y4, g4⟩ := one_field hone hyl hg 4 _ rfl c4 rfl
          obtain ⟨y5, g5⟩ := one_field hone hyl hg 5 _ rfl c5 rfl
          obtain ⟨s, e0, _, hs⟩ := DataW.trod_string Try.underlying9 g0
          obtain ⟨t, e1, _, b1⟩ := DataW.trod_int Try.underlying3 g1
          obtain ⟨u, e2, _, b2⟩ := DataW.trod_int Try.underlying3 g2
          obtain ⟨g, e3, _, b3⟩ := DataW.trod_int Try.underlying3 g3
          obtain ⟨z, e4, _, b4⟩ := DataW.trod_int Try.underlying3 g4
          obtain ⟨P, d, e, l, rfl, h5, hde, hem⟩ := open_bytes_at g5
          injection e0 with e0; injection e1 with e1; injection e2 with e2; injection e3 with e3; injection e4 with e4
          subst e0; subst e1; subst e2; subst e3; subst e4
          have h0 := hat 0 (by omega)
          have h1 := hat 1 (by omega)
          have h2 := hat 2 (by omega)
          have h3 := hat 3 (by omega)
          have h4 := hat 4 (by omega)
          have h6 := hat 5 (by omega)
          rw [ha] at h0 h1 h2 h3 h4 h6
          have k1 := bounds_i64 b1
          have k2 := bounds_i64 b2
          have k3 := bounds_i64 b3
          have k4 := bounds_i64 b4
          exact ⟨⟨s, t, u, g, z, P, d, e, l⟩, ⟨World.block_lt_of_cell? _ _ (h0.trans rfl), h0, h1, h2, h3, h4, h6⟩, h5, hs, ⟨by show (-9223372036854775808 : Int) ≤ t; omega, by show t < 9223372036854775808; omega⟩, ⟨by show (-9223372036854775808 : Int) ≤ u; omega, by show u < 9223372036854775808; omega⟩, ⟨by show (-9223372036854775808 : Int) ≤ g; omega, by show g < 9223372036854775808; omega⟩, ⟨by show (-9223372036854775808 : Int) ≤ z; omega, by show z < 9223372036854775808; omega⟩, hde, hem⟩
      obtain ⟨xs, hxl, hx⟩ := listed len key
      refine ⟨_, len, cap, xs, hcs, ⟨hxl, fun k hk => ?_⟩, hl, hm, fun x hx' => ?_⟩
      · obtain ⟨⟨hb, hc⟩, hr, _⟩ := hx k hk
        exact ⟨⟨b, o, rfl, hb, hc⟩, hr⟩
      · obtain ⟨k, hk, rfl⟩ := List.mem_iff_getElem.1 hx'
        exact (hx k hk).2.2
theorem open_mems {H : Type} {enc : TypeId × Value → H} {W : World} {base : Nat} {v : Value} {d : DataW H} {p : List MemPlace} (hok : Value.okWide Try.prog W .any base 22 v)
    (ht : DataW.Trod enc Try.prog W 0 (fun _ => true) true 22 v d p) : ∃ A n c xs, v = .slice A n c ∧ Arw.RdM0 W W.heap.size A n xs ∧ n ≤ c ∧ c ≤ maxLen ∧ ∀ x ∈ xs, MB x := by
  obtain ⟨A, n, c, rfl⟩ := okWide_slice Try.underlying22 hok
  obtain ⟨fuel, hf⟩ := ht
  exact open_mems_at hf
theorem MB.cap {x : Arp.Mem} (h : MB x) : x.len ≤ x.cap ∧ x.cap ≤ maxLen := h.2.2.2.2.2
theorem MB.ok {x : Arp.Mem} (h : MB x) (h1 : x.name.size ≤ 300) (h2 : x.len ≤ 1000) : Arw.MOk x := ⟨h1, Nat.le_trans h2 (by decide), h.2.1.2, h.2.2.1.2, h.2.2.2.1.2, h.2.2.2.2.1.2⟩
end Go.Proofs.Ytijggpahijhpeaa.Frame
