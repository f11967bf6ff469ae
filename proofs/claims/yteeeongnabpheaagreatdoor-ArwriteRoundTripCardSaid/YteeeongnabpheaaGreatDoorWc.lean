/-
  arwrite: make of strings and numbers; longNames, Offsets.
-/
import Derived.Test.YteeeongnabpheaaGreatDoorWb
import Derived.Test.YteeeongnabpheaaGreatDoorP4z
namespace Go.Proofs.YteeeongnabpheaaGreatDoor.Sls
open Go.RowKit Go.Proofs
/-- make([]string, 0, c). -/
theorem wpList_make0 {ops : Array Oper} {rest : List Oper} {o : Oper} {a : Act} {Q : Exit → Act → World → Prop} (w : World) (c : Nat) (hc : c ≤ 1000000) (K : Nat) (hK : K ≤ w.heap.size) (hgd : o.guard = none) (l x : Operand)
    (ho : o.op = Op.makeSlice 74 l x) (kl kc : IntKind) (hl : a.eval l = .int kl 0) (hx : a.eval x = .int kc (c : Int))
    (h : ∀ v' w', Own w' K v' 0 [] → Below w.heap.size w w' → wpList Tryz.prog ops Q rest (a.put o.dst v') w') :
    wpList Tryz.prog ops Q (o :: rest) a w := by
  obtain ⟨i, hi, hz0, hz1, hz2⟩ := info_parts infoB
  refine wpList_make_own w hgd l x 74 ho K 9 i (.string ⟨#[]⟩) 1 Tryz.underlying74 hi hz0 hz1 kl kc (c : Int) c hl hx rfl (by rw [hz2]; omega) (by unfold maxLen; omega) hK (fun w' h1 h2 => ?_)
  exact h _ w' (Own.of_row (l := []) h1) ((Below.refl _ _).grown h2 (Nat.le_refl _) (fun k hk => by cases hk))
end Go.Proofs.YteeeongnabpheaaGreatDoor.Sls

namespace Go.Proofs.YteeeongnabpheaaGreatDoor.Cel
open Go.RowKit Go.Proofs
/-- make([]int, 0, c). -/
theorem wpList_make0 {ops : Array Oper} {rest : List Oper} {o : Oper} {a : Act} {Q : Exit → Act → World → Prop} (w : World) (c : Nat) (hc : c ≤ 1000000) (K : Nat) (hK : K ≤ w.heap.size) (hgd : o.guard = none) (l x : Operand)
    (ho : o.op = Op.makeSlice 31 l x) (kl kc : IntKind) (hl : a.eval l = .int kl 0) (hx : a.eval x = .int kc (c : Int))
    (h : ∀ v' w', Own 3 1 w' K v' 0 [] → Below w.heap.size w w' → wpList Tryz.prog ops Q rest (a.put o.dst v') w') :
    wpList Tryz.prog ops Q (o :: rest) a w := by
  obtain ⟨i, hi, hz0, hz1, hz2⟩ := info_parts Arp.kI.info
  refine wpList_make_own w hgd l x 31 ho K 3 i (.int .i64 0) 1 Tryz.underlying31 hi hz0 hz1 kl kc (c : Int) c hl hx rfl (by rw [hz2]; omega) (by unfold maxLen; omega) hK (fun w' h1 h2 => ?_)
  refine h _ w' ⟨rfl, ?_⟩ ((Below.refl _ _).grown h2 (Nat.le_refl _) (fun k hk => by cases hk))
  rcases h1.2 with h | ⟨g, cap, cur, hv, hg, hh, hn, hm, hs, ht⟩
  · exact .inl h
  · exact .inr ⟨g, cap, cur, (0, 0), hv, hg, hh, hn, hm, by omega, by simp, fun j _ hj => by simp at hj⟩
end Go.Proofs.YteeeongnabpheaaGreatDoor.Cel

namespace Go.Proofs.YteeeongnabpheaaGreatDoor.Arw
open Go.RowKit Go.Proofs Go.Proofs.YteeeongnabpheaaGreatDoor.Byt Go.Proofs.YteeeongnabpheaaGreatDoor.Dec Go.Proofs.YteeeongnabpheaaGreatDoor.Lnm Go.Proofs.YteeeongnabpheaaGreatDoor.Hdr Go.Proofs.YteeeongnabpheaaGreatDoor.Arp

def nms (xs : List Mem) : List ByteArray := xs.map (·.name)
theorem nms_size {xs : List Mem} (hok : ∀ x ∈ xs, MOk x) : ∀ s ∈ nms xs, s.size ≤ 1000 := fun s hs => by
  obtain ⟨x, hx, rfl⟩ := List.mem_map.1 hs
  have := (hok x hx).name
  omega

set_option linter.unusedSimpArgs false in
set_option maxRecDepth 100000 in
set_option maxHeartbeats 1000000 in
theorem longNames_any (K : Nat) (A : Option Addr) (n c : Nat) (xs : List Mem) (w : World) (hg : GndP w) (h : RdM w K A n xs) (hK : K ≤ w.heap.size) (hok : ∀ x ∈ xs, MOk x) (hn : n ≤ 100) :
    Calls Tryz.prog 28 #[.slice A n c] w fun e w' => ∃ v f, e = .returned (.tuple #[v, f]) ∧ Byt.Own w' w.heap.size v (bo (nms xs)).length (bo (nms xs)) ∧ Sls.Own w' w.heap.size f (fo (nms xs)).length (fo (nms xs)) ∧ Below w.heap.size w w' := by
  have Hl := hid h.1
  have Hg := hid hg
  clear hg
  go_enter Tryz.func28, Tryz.ntmps28
  go_wp2_with (at_make; refine Sls.wpList_make0 w n (by omega) w.heap.size (Nat.le_refl _) rfl _ _ rfl _ _ rfl rfl ?_; intro v0 w0 ho0 hb0; obtain ⟨A0, c0, rfl, _⟩ := ho0.reads)
  have hs0 := hb0.size
  go_loopw [4, 12] (fun v i W => ∃ (k : Nat) (A1 : Option Addr) (c1 : Nat), v = .slice A1 k c1 ∧ i = .int .i64 (k : Int) ∧ k ≤ n ∧ Sls.Own W w.heap.size (.slice A1 k c1) k ((nms xs).take k) ∧ Below w.heap.size w W) (fun _ i _ => n - (intOf i).toNat)
  case atStart => exact ⟨0, A0, c0, rfl, rfl, by omega, by simpa using ho0, hb0⟩
  case round =>
    obtain ⟨k, A1, c1, rfl, rfl, hk, hO, hb⟩ := hrel
    by_cases hlt : k < n
    · have hkl : k < xs.length := by have := Hl.out; omega
      have hki : (k : Int) < (n : Int) := by omega
      obtain ⟨⟨b, o, rfl, hbK, hcell⟩, _, _⟩ := (h.below (hb.mono hK)).2 k hkl
      have HT : Hid ((nms xs).take (k + 1) = (nms xs).take k ++ [xs[k].name]) := hid (by rw [List.take_add_one, show (nms xs)[k]? = some xs[k].name by simp [nms, hkl]]; rfl)
      have hb1 := hb.alloc hb.size (.cells #[.string xs[k].name, .int .i64 xs[k].time, .int .i64 xs[k].uid, .int .i64 xs[k].gid, .int .i64 xs[k].mode, .slice xs[k].ptr xs[k].len xs[k].cap] 46)
      have hrow := heap_alloc_new wr (.cells #[.string xs[k].name, .int .i64 xs[k].time, .int .i64 xs[k].uid, .int .i64 xs[k].gid, .int .i64 xs[k].mode, .slice xs[k].ptr xs[k].len xs[k].cap] 46)
      have hO1 := hO.alloc (.cells #[.string xs[k].name, .int .i64 xs[k].time, .int .i64 xs[k].uid, .int .i64 xs[k].gid, .int .i64 xs[k].mode, .slice xs[k].ptr xs[k].len xs[k].cap] 46)
      generalize xs[k] = x at *
      obtain ⟨x0, x1, x2, x3, x4, x5, x6, x7, x8⟩ := x
      obtain ⟨p0, p1, p2, p3, p4, p5⟩ := hcell
      simp only at *
      clear hO hb
      go_upto_region 5 with fail
      generalize wr.alloc (.cells #[.string x0, .int .i64 x1, .int .i64 x2, .int .i64 x3, .int .i64 x4, .slice x5 x6 x7] 46) = w1 at *
      generalize wr.heap.size = g at *
      have d0 := cell_of_row _ g 0 _ _ _ hrow
      go_wp2_with (at_builtin; go_must (refine Sls.wpList_push w1 w.heap.size _ k _ x0 hO1 hb1.size (by omega) rfl (.tmp 16) (.tmp 19) rfl rfl rfl ?_); intro v2 w2 ho2 hb2 _ _; obtain ⟨A2, c2, rfl, _⟩ := ho2.reads)
      rw [← HT.out] at ho2
      have hb02 := hb1.trans hb2
      clear d0 hrow hO1 hb1 hb2 p0 p1 p2 p3 p4 p5
      go_roundw
      all_goals first
        | exact ⟨k + 1, A2, c2, by go_num, by go_num, by omega, ho2, hb02⟩
        | (simp [intOf]; omega)
    · obtain rfl : k = n := by omega
      have hT : (nms xs).take k = nms xs := List.take_of_length_le (by simp [nms, Hl.out])
      rw [hT] at hO
      obtain ⟨_, _, e1, hr1, _⟩ := hO.reads
      injection e1 with e11 _ e13
      subst e11 e13
      have HB := hid (build_any wr.heap.size A1 k c1 (nms xs) wr (Hg.out.below hb (Nat.le_refl _)) hr1 (Nat.le_refl _) hn (nms_size hok))
      clear hT hO hr1
      go_wp2_with fail
      refine HB.out.mono ?_
      rintro e w3 ⟨v, f, rfl, o1, o2, hb3⟩
      have hw := hb.size
      go_wp2_with fail
      go_ret2
      exact ⟨v, f, rfl, o1.more hw, o2.more hw, hb.trans (hb3.mono hw)⟩
end Go.Proofs.YteeeongnabpheaaGreatDoor.Arw
