/-
  arwrite: which members fit (mathematics); memberHeader, memberFits, Fits, partSize; the reference's Fits; few members.
-/
import Derived.Test.YteeeongnabpheaaGreatDoorHdg
import Derived.Test.YteeeongnabpheaaGreatDoorMf
import Derived.Test.YteeeongnabpheaaGreatDoorMk
namespace Go.Proofs.YteeeongnabpheaaGreatDoor.Arw
open Go.RowKit Go.Proofs Go.Proofs.YteeeongnabpheaaGreatDoor.Byt Go.Proofs.YteeeongnabpheaaGreatDoor.Dec Go.Proofs.YteeeongnabpheaaGreatDoor.Lnm Go.Proofs.YteeeongnabpheaaGreatDoor.Hdr Go.Proofs.YteeeongnabpheaaGreatDoor.Arp

/-- A member whose parts are small, and whose numbers are numbers. -/
structure MOk (x : Mem) : Prop where
  name : x.name.size ≤ 300
  len : x.len ≤ 1000
  t : x.time < 9223372036854775808
  u : x.uid < 9223372036854775808
  g : x.gid < 9223372036854775808
  m : x.mode < 9223372036854775808
/-- The error of one member. -/
def fitsM (x : Mem) : Int := if vld (bts x.name) = true then eerr ⟨#[47, 48]⟩ (num x.time x.uid x.gid x.mode (x.len : Int)) else 6
/-- The first member that does not fit, and its error. -/
def fitL : Nat → List Mem → Int × Int
  | _, [] => (-1, 0)
  | k, x :: r => if fitsM x = 0 then fitL (k + 1) r else ((k : Int), fitsM x)
theorem eerr_a (f : Nat → Int) : eerr ⟨#[97]⟩ f = eerr ⟨#[47, 48]⟩ f := by
  have h1 : nameOk ⟨#[97]⟩ = true := by decide +kernel
  have h2 : nameOk ⟨#[47, 48]⟩ = true := by decide +kernel
  have h3 : isTab ⟨#[97]⟩ = false := by decide +kernel
  have h4 : isTab ⟨#[47, 48]⟩ = false := by decide +kernel
  have h5 : ∀ k, allOk ⟨#[97]⟩ f k = allOk ⟨#[47, 48]⟩ f k := fun k => by
    induction k with
    | zero => rfl
    | succ k ih => unfold allOk; rw [ih, h3, h4]
  unfold eerr
  rw [if_pos h1, if_pos h2, h5]
theorem eerr_09 (f : Nat → Int) : eerr ⟨#[47, 48]⟩ f = 0 ∨ eerr ⟨#[47, 48]⟩ f = 9 := by
  have h2 : nameOk ⟨#[47, 48]⟩ = true := by decide +kernel
  unfold eerr
  rw [if_pos h2]
  split
  · exact .inl rfl
  · exact .inr rfl

theorem load6 (w : World) (B : Nat) (cs : Array Value) (h : w.heap[B]? = some (.cells cs 68 (0, 0))) (hs : cs.size = 6) :
    (loadVar 68 ⟨B, 0, none⟩).run Tryz.prog w = .ok (.agg cs) w :=
  run_loadVar_row w B 68 68 cs (0, 0) _ h Tryz.underlying68 rfl (by rw [hs]; kernel_rfl)

set_option maxRecDepth 100000 in
set_option maxHeartbeats 1000000 in
theorem memberHeader_any (s : ByteArray) (x : Mem) (w : World) :
    Calls Tryz.prog 37 #[.string s, x.val] w fun e w' => e = .returned (.agg #[.string s, .int .i64 x.time, .int .i64 x.uid, .int .i64 x.gid, .int .i64 x.mode, .int .i64 (x.len : Int)]) ∧ Below w.heap.size w w' := by
  obtain ⟨x0, x1, x2, x3, x4, x5, x6, x7, x8⟩ := x
  simp only [Mem.val]
  have hbz := ((Below.refl w.heap.size w).alloc (Nat.le_refl _) (.cells #[.string x0, .int .i64 x1, .int .i64 x2, .int .i64 x3, .int .i64 x4, .slice x5 x6 x7] 46)).alloc (by simp) (.cells #[.string s, .int .i64 x1, .int .i64 x2, .int .i64 x3, .int .i64 x4, .int .i64 (x6 : Int)] 68)
  have hrow := heap_alloc_new (w.alloc (.cells #[.string x0, .int .i64 x1, .int .i64 x2, .int .i64 x3, .int .i64 x4, .slice x5 x6 x7] 46)) (.cells #[.string s, .int .i64 x1, .int .i64 x2, .int .i64 x3, .int .i64 x4, .int .i64 (x6 : Int)] 68)
  rw [World.size_alloc] at hrow
  have hl := load6 _ _ _ hrow rfl
  clear hrow
  go_enter Tryz.func37, Tryz.ntmps37
  go_wp2_with fail
  exact bodyPost_ret (v := .agg #[.string s, .int .i64 x1, .int .i64 x2, .int .i64 x3, .int .i64 x4, .int .i64 (x6 : Int)]) (by simp [results, Tryz.results37, asAddr, hl]) rfl ⟨rfl, hbz⟩

set_option maxRecDepth 100000 in
set_option maxHeartbeats 1000000 in
theorem memberFits_any (x : Mem) (w : World) (hx : MOk x) :
    Calls Tryz.prog 36 #[x.val] w fun e w' => e = .returned (.int .i64 (fitsM x)) ∧ Below w.heap.size w w' := by
  have hb0 := (Below.refl w.heap.size w).alloc (Nat.le_refl _) (.cells #[.string x.name, .int .i64 x.time, .int .i64 x.uid, .int .i64 x.gid, .int .i64 x.mode, .slice x.ptr x.len x.cap] 46)
  have hrow := heap_alloc_new w (.cells #[.string x.name, .int .i64 x.time, .int .i64 x.uid, .int .i64 x.gid, .int .i64 x.mode, .slice x.ptr x.len x.cap] 46)
  have hn := hx.name
  have Hh := hid fun W => memberHeader_any ⟨#[47, 48]⟩ x W
  have hlen := hx.len
  have Hf := hid fun W => fits_any ⟨#[47, 48]⟩ x.time x.uid x.gid x.mode (x.len : Int) W (by decide) hx.t hx.u hx.g hx.m (by omega)
  have HM : Hid (fitsM x = if vld (bts x.name) = true then eerr ⟨#[47, 48]⟩ (num x.time x.uid x.gid x.mode (x.len : Int)) else 6) := hid rfl
  generalize fitsM x = fm at *
  obtain ⟨x0, x1, x2, x3, x4, x5, x6, x7, x8⟩ := x
  simp only [Mem.val] at *
  clear hx
  generalize eerr ⟨#[47, 48]⟩ (num x1 x2 x3 x4 (x6 : Int)) = ee at *
  go_enter Tryz.func36, Tryz.ntmps36
  go_wp2_with fail
  generalize w.alloc (.cells #[.string x0, .int .i64 x1, .int .i64 x2, .int .i64 x3, .int .i64 x4, .slice x5 x6 x7] 46) = w0 at *
  refine (valid_any x0 w0 (by omega)).mono ?_
  rintro e w1 ⟨rfl, hb1⟩
  have hrow1 := (hb1.block w.heap.size (Array.getElem?_eq_some_iff.1 hrow).1).trans hrow
  have hb01 := hb0.trans (hb1.mono hb0.size)
  cases hv : vld (bts x0)
  · rw [hv] at HM
    have e6 : fm = 6 := HM.out
    subst e6
    go_wp2_with fail
    go_ret
    exact ⟨rfl, hb01⟩
  · rw [hv] at HM
    have e6 : fm = ee := HM.out
    subst e6
    have c0 := cell_of_row _ w.heap.size 0 _ _ _ hrow1
    have c1 := cell_of_row _ w.heap.size 1 _ _ _ hrow1
    have c2 := cell_of_row _ w.heap.size 2 _ _ _ hrow1
    have c3 := cell_of_row _ w.heap.size 3 _ _ _ hrow1
    have c4 := cell_of_row _ w.heap.size 4 _ _ _ hrow1
    have c5 := cell_of_row _ w.heap.size 5 _ _ _ hrow1
    go_wp2_with fail
    refine (Hh.out _).mono ?_
    rintro e w2 ⟨rfl, hb2⟩
    go_wp2_with fail
    refine (Hf.out _).mono ?_
    rintro e w3 ⟨rfl, hb3⟩
    go_wp2_with fail
    go_ret
    exact ⟨rfl, hb01.trans ((hb2.trans (hb3.mono hb2.size)).mono hb01.size)⟩
end Go.Proofs.YteeeongnabpheaaGreatDoor.Arw
