/-
  arwrite: make of strings and numbers; longNames, Offsets.
  arwrite: Offsets; few members.
-/
import Derived.Test.YtpedngfmjhpojaaGreatDoorZWa
import Derived.Test.YtpedngfmjhpojaaGreatDoorZP4z
import Derived.Deep.CutRange
import Derived.Deep.DeepMust
namespace Go.Proofs.YtpedngfmjhpojaaGreatDoor.Sls
open Go.RowKit Go.Proofs
/-- make([]string, 0, c). -/
theorem wpList_make0 {ops : Array Oper} {rest : List Oper} {o : Oper} {a : Act} {Q : Exit → Act → World → Prop} (w : World) (c : Nat) (hc : c ≤ 1000000) (K : Nat) (hK : K ≤ w.heap.size) (hgd : o.guard = none) (l x : Operand)
    (ho : o.op = Op.makeSlice 40 l x) (kl kc : IntKind) (hl : a.eval l = .int kl 0) (hx : a.eval x = .int kc (c : Int))
    (h : ∀ v' w', Own w' K v' 0 [] → Below w.heap.size w w' → wpList Tryz.prog ops Q rest (a.put o.dst v') w') :
    wpList Tryz.prog ops Q (o :: rest) a w := by
  obtain ⟨i, hi, hz0, hz1, hz2⟩ := info_parts infoB
  refine wpList_make_own w hgd l x 40 ho K 9 i (.string ⟨#[]⟩) 1 Tryz.underlying40 hi hz0 hz1 kl kc (c : Int) c hl hx rfl (by rw [hz2]; omega) (by unfold maxLen; omega) hK (fun w' h1 h2 => ?_)
  exact h _ w' (Own.of_row (l := []) h1) ((Below.refl _ _).grown h2 (Nat.le_refl _) (fun k hk => by cases hk))
end Go.Proofs.YtpedngfmjhpojaaGreatDoor.Sls

namespace Go.Proofs.YtpedngfmjhpojaaGreatDoor.Cel
open Go.RowKit Go.Proofs
/-- make([]int, 0, c). -/
theorem wpList_make0 {ops : Array Oper} {rest : List Oper} {o : Oper} {a : Act} {Q : Exit → Act → World → Prop} (w : World) (c : Nat) (hc : c ≤ 1000000) (K : Nat) (hK : K ≤ w.heap.size) (hgd : o.guard = none) (l x : Operand)
    (ho : o.op = Op.makeSlice 27 l x) (kl kc : IntKind) (hl : a.eval l = .int kl 0) (hx : a.eval x = .int kc (c : Int))
    (h : ∀ v' w', Own 3 1 w' K v' 0 [] → Below w.heap.size w w' → wpList Tryz.prog ops Q rest (a.put o.dst v') w') :
    wpList Tryz.prog ops Q (o :: rest) a w := by
  obtain ⟨i, hi, hz0, hz1, hz2⟩ := info_parts Arp.kI.info
  refine wpList_make_own w hgd l x 27 ho K 3 i (.int .i64 0) 1 Tryz.underlying27 hi hz0 hz1 kl kc (c : Int) c hl hx rfl (by rw [hz2]; omega) (by unfold maxLen; omega) hK (fun w' h1 h2 => ?_)
  refine h _ w' ⟨rfl, ?_⟩ ((Below.refl _ _).grown h2 (Nat.le_refl _) (fun k hk => by cases hk))
  rcases h1.2 with h | ⟨g, cap, cur, hv, hg, hh, hn, hm, hs, ht⟩
  · exact .inl h
  · exact .inr ⟨g, cap, cur, (0, 0), hv, hg, hh, hn, hm, by omega, by simp, fun j _ hj => by simp at hj⟩
end Go.Proofs.YtpedngfmjhpojaaGreatDoor.Cel

namespace Go.Proofs.YtpedngfmjhpojaaGreatDoor.Arw
open Go.RowKit Go.Proofs Go.Proofs.YtpedngfmjhpojaaGreatDoor.Byt Go.Proofs.YtpedngfmjhpojaaGreatDoor.Dec Go.Proofs.YtpedngfmjhpojaaGreatDoor.Lnm Go.Proofs.YtpedngfmjhpojaaGreatDoor.Hdr Go.Proofs.YtpedngfmjhpojaaGreatDoor.Arp

def nms (xs : List Mem) : List ByteArray := xs.map (·.name)
theorem nms_size {xs : List Mem} (hok : ∀ x ∈ xs, MOk x) : ∀ s ∈ nms xs, s.size ≤ 1000 := fun s hs => by
  obtain ⟨x, hx, rfl⟩ := List.mem_map.1 hs
  have := (hok x hx).name
  omega

set_option linter.unusedSimpArgs false in
set_option maxRecDepth 100000 in
set_option maxHeartbeats 1000000 in
theorem longNames_any (K : Nat) (A : Option Addr) (n c : Nat) (xs : List Mem) (w : World) (hg : GndP w) (h : RdM w K A n xs) (hK : K ≤ w.heap.size) (hok : ∀ x ∈ xs, MOk x) (hn : n ≤ 100) :
    Calls Tryz.prog 83 #[.slice A n c] w fun e w' => ∃ v f, e = .returned (.tuple #[v, f]) ∧ Byt.Own w' w.heap.size v (bo (nms xs)).length (bo (nms xs)) ∧ Sls.Own w' w.heap.size f (fo (nms xs)).length (fo (nms xs)) ∧ Below w.heap.size w w' := by
  have Hl := hid h.1
  have Hg := hid hg
  clear hg
  go_enter Tryz.func83, Tryz.ntmps83
  go_wp2_with (at_make; refine Sls.wpList_make0 w n (by omega) w.heap.size (Nat.le_refl _) rfl _ _ rfl _ _ rfl rfl ?_; intro v0 w0 ho0 hb0; obtain ⟨A0, c0, rfl, _⟩ := ho0.reads)
  have hs0 := hb0.size
  go_loopw [4, 12] (fun v i W => ∃ (k : Nat) (A1 : Option Addr) (c1 : Nat), v = .slice A1 k c1 ∧ i = .int .i64 (k : Int) ∧ k ≤ n ∧ Sls.Own W w.heap.size (.slice A1 k c1) k ((nms xs).take k) ∧ Below w.heap.size w W) (fun _ i _ => n - (intOf i).toNat)
  case atStart => exact ⟨0, A0, c0, rfl, rfl, by omega, by simpa using ho0, hb0⟩
  case round =>
    obtain ⟨k, A1, c1, rfl, rfl, hk, hO, hb⟩ := hrel
    by_cases hlt : k < n
    · have hkl : k < xs.length := by have := Hl.out; omega
      have hki : (k : Int) < (n : Int) := by omega
      obtain ⟨⟨b, o, rfl, hbK, hcell⟩, _, _⟩ := (h.below (hb.mono hK)).2 k hkl
      have HT : Hid ((nms xs).take (k + 1) = (nms xs).take k ++ [xs[k].name]) := hid (by rw [List.take_add_one, show (nms xs)[k]? = some xs[k].name by simp [nms, hkl]]; rfl)
      have hb1 := hb.alloc hb.size (.cells #[.string xs[k].name, .int .i64 xs[k].time, .int .i64 xs[k].uid, .int .i64 xs[k].gid, .int .i64 xs[k].mode, .slice xs[k].ptr xs[k].len xs[k].cap] 49)
      have hrow := heap_alloc_new wr (.cells #[.string xs[k].name, .int .i64 xs[k].time, .int .i64 xs[k].uid, .int .i64 xs[k].gid, .int .i64 xs[k].mode, .slice xs[k].ptr xs[k].len xs[k].cap] 49)
      have hO1 := hO.alloc (.cells #[.string xs[k].name, .int .i64 xs[k].time, .int .i64 xs[k].uid, .int .i64 xs[k].gid, .int .i64 xs[k].mode, .slice xs[k].ptr xs[k].len xs[k].cap] 49)
      generalize xs[k] = x at *
      obtain ⟨x0, x1, x2, x3, x4, x5, x6, x7, x8⟩ := x
      obtain ⟨p0, p1, p2, p3, p4, p5⟩ := hcell
      simp only at *
      clear hO hb
      go_upto_region 5 with fail
      generalize wr.alloc (.cells #[.string x0, .int .i64 x1, .int .i64 x2, .int .i64 x3, .int .i64 x4, .slice x5 x6 x7] 49) = w1 at *
      generalize wr.heap.size = g at *
      have d0 := cell_of_row _ g 0 _ _ _ hrow
      go_wp2_with (at_builtin; go_must (refine Sls.wpList_push w1 w.heap.size _ k _ x0 hO1 hb1.size (by omega) rfl (.tmp 16) (.tmp 19) rfl rfl rfl ?_); intro v2 w2 ho2 hb2 _ _; obtain ⟨A2, c2, rfl, _⟩ := ho2.reads)
      rw [← HT.out] at ho2
      have hb02 := hb1.trans hb2
      clear d0 hrow hO1 hb1 hb2 p0 p1 p2 p3 p4 p5
      go_roundw
      all_goals first
        | exact ⟨k + 1, A2, c2, by go_num, by go_num, by omega, ho2, hb02⟩
        | (simp [intOf]; omega)
    · obtain rfl : k = n := by omega
      have hT : (nms xs).take k = nms xs := List.take_of_length_le (by simp [nms, Hl.out])
      rw [hT] at hO
      obtain ⟨_, _, e1, hr1, _⟩ := hO.reads
      injection e1 with e11 _ e13
      subst e11 e13
      have HB := hid (build_any wr.heap.size A1 k c1 (nms xs) wr (Hg.out.below hb (Nat.le_refl _)) hr1 (Nat.le_refl _) hn (nms_size hok))
      clear hT hO hr1
      go_wp2_with fail
      refine HB.out.mono ?_
      rintro e w3 ⟨v, f, rfl, o1, o2, hb3⟩
      have hw := hb.size
      go_wp2_with fail
      go_ret2
      exact ⟨v, f, rfl, o1.more hw, o2.more hw, hb.trans (hb3.mono hw)⟩
end Go.Proofs.YtpedngfmjhpojaaGreatDoor.Arw

namespace Go.Proofs.YtpedngfmjhpojaaGreatDoor.Arw
open Go.RowKit Go.Proofs Go.Proofs.YtpedngfmjhpojaaGreatDoor.Byt Go.Proofs.YtpedngfmjhpojaaGreatDoor.Dec Go.Proofs.YtpedngfmjhpojaaGreatDoor.Lnm Go.Proofs.YtpedngfmjhpojaaGreatDoor.Hdr Go.Proofs.YtpedngfmjhpojaaGreatDoor.Arp

def pz (n : Nat) : Nat := 60 + n + n % 2
def offAt (o : Nat) (xs : List Mem) (k : Nat) : Nat := o + ((xs.take k).map (fun x => pz x.len)).sum
def offL (o : Nat) (xs : List Mem) : List Nat := (List.range xs.length).map (offAt o xs)
def base (hm : Bool) (ms : Nat) (xs : List Mem) : Nat := 8 + (if hm = true then pz ms else 0) + (if (bo (nms xs)).length = 0 then 0 else pz (bo (nms xs)).length)
theorem bo_len (ns : List ByteArray) : (bo ns).length ≤ ns.length * 257 := by
  unfold bo
  split
  · rename_i h
    exact tabl_len h (Nat.le_refl _)
  · simp
theorem offAt_succ {o : Nat} {xs : List Mem} {k : Nat} (hk : k < xs.length) : offAt o xs (k + 1) = offAt o xs k + pz xs[k].len := by
  unfold offAt
  rw [List.take_succ_eq_append_getElem hk, List.map_append, List.sum_append]
  simp only [List.map_cons, List.map_nil, List.sum_cons, List.sum_nil]
  omega
theorem offAt_le {o : Nat} {xs : List Mem} (hok : ∀ x ∈ xs, MOk x) : ∀ k, k ≤ xs.length → offAt o xs k ≤ o + k * 1061
  | 0, _ => by simp [offAt]
  | k + 1, h => by
    rw [offAt_succ h]
    have h1 := offAt_le (o := o) hok k (by omega)
    have h2 := (hok xs[k] (List.getElem_mem _)).len
    unfold pz
    omega
theorem base_le {hm : Bool} {ms : Nat} {xs : List Mem} (h1 : ms ≤ 70000) (h2 : xs.length ≤ 20) : base hm ms xs ≤ 100000 := by
  unfold base
  have h3 := bo_len (nms xs)
  have h4 : (nms xs).length = xs.length := by simp [nms]
  have h5 : (if hm = true then pz ms else 0) ≤ 70061 := by split <;> (try unfold pz) <;> omega
  have h6 : (if (bo (nms xs)).length = 0 then 0 else pz (bo (nms xs)).length) ≤ 6000 := by split <;> (try unfold pz) <;> omega
  omega
def ints (l : List Nat) : List Value := l.map fun (o : Nat) => Value.int .i64 (o : Int)
/-- What Offsets gives. -/
def Offs (hm : Bool) (ms : Nat) (xs : List Mem) (w : World) (e : Ending) (w' : World) : Prop :=
  ∃ A n c, e = .returned (.slice A n c) ∧ Cel.Own 3 1 w' w.heap.size (.slice A n c) n (ints (if (fitL 0 xs).2 = 0 then offL (base hm ms xs) xs else [])) ∧ Below w.heap.size w w'

set_option linter.unusedSimpArgs false in
set_option maxRecDepth 100000 in
set_option maxHeartbeats 2000000 in
theorem offsets_any (hm : Bool) (ms : Nat) (K : Nat) (A : Option Addr) (n c : Nat) (xs : List Mem) (w : World) (hg : GndP w) (h : RdM w K A n xs) (hK : K ≤ w.heap.size) (hok : ∀ x ∈ xs, MOk x) (hn : n ≤ 20) (hms : ms ≤ 70000) :
    Calls Tryz.prog 52 #[.bool hm, .int .i64 (ms : Int), .slice A n c] w (Offs hm ms xs w) := by
  have Hl := hid h.1
  have Hg := hid hg
  clear hg
  have Hx := hid (base_le (hm := hm) (ms := ms) (xs := xs) hms (by have := Hl.out; omega))
  go_enter Tryz.func52, Tryz.ntmps52
  go_wp2_with fail
  refine (fits5_any K A n c xs w h hK hok (by omega)).mono ?_
  rintro e w1 ⟨rfl, hb1⟩
  obtain ⟨f1, f2, hf⟩ : ∃ f1 f2, fitL 0 xs = (f1, f2) := ⟨_, _, rfl⟩
  have HF := hid hf
  rw [hf]
  clear hf
  by_cases hz : f2 = 0
  · subst hz
    have hb01 := hb1
    have h1 := h.below (hb1.mono hK)
    have hlen := hid (bo_len (nms xs))
    have hnl : Hid ((nms xs).length = n) := hid (by simp [nms, Hl.out])
    have HL := hid (longNames_any K A n c xs)
    have hs1 := hb1.size
    have hp := hid (partSize_any ms (by omega))
    have hq0 : IntKind.i64.wrap (8 + ((pz ms : Nat) : Int)) = ((8 + pz ms : Nat) : Int) := by rw [IntKind.wrap_i64]; unfold pz; omega
    have e2 : ((60 + ms + ms % 2 : Nat) : Int) = ((pz ms : Nat) : Int) := rfl
    rw [e2] at hp
    cases hm
    · obtain ⟨o1, ho1⟩ : ∃ o1 : Nat, 8 = o1 := ⟨_, rfl⟩
      have HO1 : Hid (8 + (if false = true then pz ms else 0) = o1) := hid ho1
      have ho1b : o1 ≤ 80000 := by omega
      have H8 : Hid ((8 : Int) = (o1 : Int)) := hid (by omega)
      clear hq0 e2 hp ho1
      go_wp2_with fail
      refine (HL.out w1 (Hg.out.on hb1) h1 (by omega) hok (by omega)).mono ?_
      rintro e w2 ⟨v, f, rfl, ov, _, hb2⟩
      obtain ⟨Av, cv, rfl, _⟩ := ov.reads
      have hb02 := hb1.trans (hb2.mono hs1)
      have h2 := h1.below (hb2.mono (by omega))
      obtain ⟨tb, htb⟩ : ∃ tb, (bo (nms xs)).length = tb := ⟨_, rfl⟩
      rw [htb]
      have htbb : tb ≤ 6000 := by have := hlen.out; have := hnl.out; omega
      obtain ⟨ob, hob⟩ : ∃ ob, base false ms xs = ob := ⟨_, rfl⟩
      have hob2 : o1 + (if tb = 0 then 0 else pz tb) = ob := by rw [← hob, ← HO1.out, ← htb]; rfl
      have hobb : ob ≤ 100000 := by rw [← hob]; exact Hx.out
      have HOB := hid hob
      clear hob ov hb2 h1 htb
      by_cases ht0 : tb = 0
      · subst ht0
        have hx : ob = o1 := by simpa using hob2.symm
        subst hx
        clear hob2
        go_wp2_with (at_make; go_must (refine Cel.wpList_make0 w2 n (by omega) w.heap.size hb02.size rfl _ _ rfl _ _ rfl rfl ?_); intro v0 w0 ho0 hb0; obtain ⟨A0, c0, rfl, _⟩ := ho0.reads)
        have hb00 := hb02.trans (hb0.mono hb02.size)
        have HW := hid (fun k (hk : k ≤ n) => offAt_le (o := ob) hok k (by have := Hl.out; omega))
        clear hb0
        go_loopw [9, 12, 45] (fun a v i W => ∃ (k : Nat) (A1 : Option Addr) (c1 : Nat), a = .int .i64 (offAt ob xs k : Int) ∧ v = .slice A1 k c1 ∧ i = .int .i64 (k : Int) ∧ k ≤ n ∧ Cel.Own 3 1 W w.heap.size (.slice A1 k c1) k (ints ((List.range k).map (offAt ob xs))) ∧ Below w.heap.size w W) (fun _ _ i _ => n - (intOf i).toNat)
        case atStart => exact ⟨0, A0, c0, by first | (simp [offAt]; done) | (have := H8.out; simp [offAt]; omega), rfl, rfl, by omega, by simpa [ints] using ho0, hb00⟩
        case round =>
          obtain ⟨k, A1, c1, rfl, rfl, rfl, hk, hO, hb⟩ := hrel
          by_cases hlt : k < n
          · have hkl : k < xs.length := by have := Hl.out; omega
            have hki : (k : Int) < (n : Int) := by omega
            obtain ⟨⟨b, o, rfl, hbK, hcell⟩, _, _⟩ := (h.below (hb.mono hK)).2 k hkl
            have HT : Hid (ints ((List.range (k + 1)).map (offAt ob xs)) = ints ((List.range k).map (offAt ob xs)) ++ [.int .i64 (offAt ob xs k : Int)]) := hid (by rw [List.range_succ]; simp [ints])
            have HN : Hid (offAt ob xs (k + 1) = offAt ob xs k + pz xs[k].len) := hid (offAt_succ hkl)
            have hx2 := (hok xs[k] (List.getElem_mem hkl)).len
            have hbd := HW.out k hk
            have hb1 := hb.alloc hb.size (.cells #[.string xs[k].name, .int .i64 xs[k].time, .int .i64 xs[k].uid, .int .i64 xs[k].gid, .int .i64 xs[k].mode, .slice xs[k].ptr xs[k].len xs[k].cap] 49)
            have hrow := heap_alloc_new wr (.cells #[.string xs[k].name, .int .i64 xs[k].time, .int .i64 xs[k].uid, .int .i64 xs[k].gid, .int .i64 xs[k].mode, .slice xs[k].ptr xs[k].len xs[k].cap] 49)
            have hO1 := hO.alloc (.cells #[.string xs[k].name, .int .i64 xs[k].time, .int .i64 xs[k].uid, .int .i64 xs[k].gid, .int .i64 xs[k].mode, .slice xs[k].ptr xs[k].len xs[k].cap] 49)
            generalize xs[k] = x at *
            obtain ⟨x0, x1, x2, x3, x4, x5, x6, x7, x8⟩ := x
            obtain ⟨p0, p1, p2, p3, p4, p5⟩ := hcell
            simp only at *
            have hp := hid (partSize_any x6 (by omega))
            have e2 : ((60 + x6 + x6 % 2 : Nat) : Int) = ((pz x6 : Nat) : Int) := rfl
            have hq : IntKind.i64.wrap ((offAt ob xs k : Int) + ((pz x6 : Nat) : Int)) = (offAt ob xs (k + 1) : Int) := by rw [IntKind.wrap_i64, HN.out]; unfold pz; omega
            rw [e2] at hp
            generalize ((pz x6 : Nat) : Int) = pm at *
            generalize (offAt ob xs k : Int) = ok at *
            obtain ⟨on, hon⟩ : ∃ on : Int, (offAt ob xs (k + 1) : Int) = on := ⟨_, rfl⟩
            have HON := hid hon
            rw [hon] at hq
            clear hO hb hon e2 hbd HN
            go_upto_region 14 with fail
            generalize wr.alloc (.cells #[.string x0, .int .i64 x1, .int .i64 x2, .int .i64 x3, .int .i64 x4, .slice x5 x6 x7] 49) = w1' at *
            generalize wr.heap.size = g at *
            go_upto_region 15 with (at_builtin; go_must (refine Cel.wpList_push kI w1' w.heap.size (.slice A1 k c1) k _ hO1 hb1.size 1 1 #[.int .i64 ok] (0, 0) rfl (by simp [Value.oneCell']) (by omega) (by omega) rfl (.tmp 49) (.tmp 51) rfl rfl rfl ?_); intro v2 w2' ho2 hb2 hot _; obtain ⟨A2, c2, rfl, _⟩ := ho2.reads)
            have e3 : ints ((List.range k).map (offAt ob xs)) ++ #[Value.int .i64 ok].toList = ints ((List.range (k + 1)).map (offAt ob xs)) := by rw [HT.out]
            rw [e3] at ho2
            have hrow2 := hot _ _ hrow (fun _ _ e => by simp at e)
            have d5 := cell_of_row _ g 5 _ _ _ hrow2
            have hb02' := hb1.trans hb2
            clear hrow hO1 hb1 hb2 hot e3 p0 p1 p2 p3 p4 p5 hrow2
            go_wp2_with fail
            refine (hp.out _).mono ?_
            rintro e w3 ⟨rfl, rfl⟩
            go_wp2_with fail
            go_roundw
            all_goals first
              | exact ⟨k + 1, A2, c2, by rw [HON.out], rfl, by go_num, by omega, ho2, hb02'⟩
              | (simp [intOf]; omega)
          · obtain rfl : k = n := by omega
            have HR : Hid ((if (fitL 0 xs).2 = 0 then offL (base false ms xs) xs else []) = (List.range k).map (offAt ob xs)) := hid (by rw [HF.out, if_pos rfl, HOB.out]; unfold offL; rw [Hl.out])
            go_wp2_with fail
            go_ret
            refine ⟨A1, k, c1, rfl, ?_, hb⟩
            rw [HR.out]
            exact hO
      · have hti : (0 : Int) < (tb : Int) := by omega
        have e1 : o1 + pz tb = ob := by rw [if_neg ht0] at hob2; exact hob2
        have hp := hid (partSize_any tb (by omega))
        have e2 : ((60 + tb + tb % 2 : Nat) : Int) = ((pz tb : Nat) : Int) := rfl
        have hq : IntKind.i64.wrap (8 + ((pz tb : Nat) : Int)) = (ob : Int) := by rw [IntKind.wrap_i64]; have h8 := H8.out; omega
        rw [e2] at hp
        generalize ((pz tb : Nat) : Int) = pm at *
        clear e1 e2 hob2
        go_wp2_with fail
        refine (hp.out _).mono ?_
        rintro e w3 ⟨rfl, rfl⟩
        go_wp2_with (at_make; go_must (refine Cel.wpList_make0 w3 n (by omega) w.heap.size hb02.size rfl _ _ rfl _ _ rfl rfl ?_); intro v0 w0 ho0 hb0; obtain ⟨A0, c0, rfl, _⟩ := ho0.reads)
        have hb00 := hb02.trans (hb0.mono hb02.size)
        have HW := hid (fun k (hk : k ≤ n) => offAt_le (o := ob) hok k (by have := Hl.out; omega))
        clear hb0
        go_loopw [9, 12, 45] (fun a v i W => ∃ (k : Nat) (A1 : Option Addr) (c1 : Nat), a = .int .i64 (offAt ob xs k : Int) ∧ v = .slice A1 k c1 ∧ i = .int .i64 (k : Int) ∧ k ≤ n ∧ Cel.Own 3 1 W w.heap.size (.slice A1 k c1) k (ints ((List.range k).map (offAt ob xs))) ∧ Below w.heap.size w W) (fun _ _ i _ => n - (intOf i).toNat)
        case atStart => exact ⟨0, A0, c0, by first | (simp [offAt]; done) | (have := H8.out; simp [offAt]; omega), rfl, rfl, by omega, by simpa [ints] using ho0, hb00⟩
        case round =>
          obtain ⟨k, A1, c1, rfl, rfl, rfl, hk, hO, hb⟩ := hrel
          by_cases hlt : k < n
          · have hkl : k < xs.length := by have := Hl.out; omega
            have hki : (k : Int) < (n : Int) := by omega
            obtain ⟨⟨b, o, rfl, hbK, hcell⟩, _, _⟩ := (h.below (hb.mono hK)).2 k hkl
            have HT : Hid (ints ((List.range (k + 1)).map (offAt ob xs)) = ints ((List.range k).map (offAt ob xs)) ++ [.int .i64 (offAt ob xs k : Int)]) := hid (by rw [List.range_succ]; simp [ints])
            have HN : Hid (offAt ob xs (k + 1) = offAt ob xs k + pz xs[k].len) := hid (offAt_succ hkl)
            have hx2 := (hok xs[k] (List.getElem_mem hkl)).len
            have hbd := HW.out k hk
            have hb1 := hb.alloc hb.size (.cells #[.string xs[k].name, .int .i64 xs[k].time, .int .i64 xs[k].uid, .int .i64 xs[k].gid, .int .i64 xs[k].mode, .slice xs[k].ptr xs[k].len xs[k].cap] 49)
            have hrow := heap_alloc_new wr (.cells #[.string xs[k].name, .int .i64 xs[k].time, .int .i64 xs[k].uid, .int .i64 xs[k].gid, .int .i64 xs[k].mode, .slice xs[k].ptr xs[k].len xs[k].cap] 49)
            have hO1 := hO.alloc (.cells #[.string xs[k].name, .int .i64 xs[k].time, .int .i64 xs[k].uid, .int .i64 xs[k].gid, .int .i64 xs[k].mode, .slice xs[k].ptr xs[k].len xs[k].cap] 49)
            generalize xs[k] = x at *
            obtain ⟨x0, x1, x2, x3, x4, x5, x6, x7, x8⟩ := x
            obtain ⟨p0, p1, p2, p3, p4, p5⟩ := hcell
            simp only at *
            have hp := hid (partSize_any x6 (by omega))
            have e2 : ((60 + x6 + x6 % 2 : Nat) : Int) = ((pz x6 : Nat) : Int) := rfl
            have hq : IntKind.i64.wrap ((offAt ob xs k : Int) + ((pz x6 : Nat) : Int)) = (offAt ob xs (k + 1) : Int) := by rw [IntKind.wrap_i64, HN.out]; unfold pz; omega
            rw [e2] at hp
            generalize ((pz x6 : Nat) : Int) = pm at *
            generalize (offAt ob xs k : Int) = ok at *
            obtain ⟨on, hon⟩ : ∃ on : Int, (offAt ob xs (k + 1) : Int) = on := ⟨_, rfl⟩
            have HON := hid hon
            rw [hon] at hq
            clear hO hb hon e2 hbd HN
            go_upto_region 14 with fail
            generalize wr.alloc (.cells #[.string x0, .int .i64 x1, .int .i64 x2, .int .i64 x3, .int .i64 x4, .slice x5 x6 x7] 49) = w1' at *
            generalize wr.heap.size = g at *
            go_upto_region 15 with (at_builtin; go_must (refine Cel.wpList_push kI w1' w.heap.size (.slice A1 k c1) k _ hO1 hb1.size 1 1 #[.int .i64 ok] (0, 0) rfl (by simp [Value.oneCell']) (by omega) (by omega) rfl (.tmp 49) (.tmp 51) rfl rfl rfl ?_); intro v2 w2' ho2 hb2 hot _; obtain ⟨A2, c2, rfl, _⟩ := ho2.reads)
            have e3 : ints ((List.range k).map (offAt ob xs)) ++ #[Value.int .i64 ok].toList = ints ((List.range (k + 1)).map (offAt ob xs)) := by rw [HT.out]
            rw [e3] at ho2
            have hrow2 := hot _ _ hrow (fun _ _ e => by simp at e)
            have d5 := cell_of_row _ g 5 _ _ _ hrow2
            have hb02' := hb1.trans hb2
            clear hrow hO1 hb1 hb2 hot e3 p0 p1 p2 p3 p4 p5 hrow2
            go_wp2_with fail
            refine (hp.out _).mono ?_
            rintro e w3 ⟨rfl, rfl⟩
            go_wp2_with fail
            go_roundw
            all_goals first
              | exact ⟨k + 1, A2, c2, by rw [HON.out], rfl, by go_num, by omega, ho2, hb02'⟩
              | (simp [intOf]; omega)
          · obtain rfl : k = n := by omega
            have HR : Hid ((if (fitL 0 xs).2 = 0 then offL (base false ms xs) xs else []) = (List.range k).map (offAt ob xs)) := hid (by rw [HF.out, if_pos rfl, HOB.out]; unfold offL; rw [Hl.out])
            go_wp2_with fail
            go_ret
            refine ⟨A1, k, c1, rfl, ?_, hb⟩
            rw [HR.out]
            exact hO
    · obtain ⟨o1, ho1⟩ : ∃ o1 : Nat, 8 + pz ms = o1 := ⟨_, rfl⟩
      have HO1 : Hid (8 + (if true = true then pz ms else 0) = o1) := hid ho1
      have ho1b : o1 ≤ 80000 := by rw [← ho1]; unfold pz; omega
      rw [ho1] at hq0
      generalize ((pz ms : Nat) : Int) = pm0 at *
      clear ho1 e2
      go_wp2_with fail
      refine (hp.out _).mono ?_
      rintro e w1' ⟨rfl, rfl⟩
      clear hp
      go_wp2_with fail
      refine (HL.out _ (Hg.out.on hb1) h1 (by omega) hok (by omega)).mono ?_
      rintro e w2 ⟨v, f, rfl, ov, _, hb2⟩
      obtain ⟨Av, cv, rfl, _⟩ := ov.reads
      have hb02 := hb1.trans (hb2.mono hs1)
      have h2 := h1.below (hb2.mono (by omega))
      obtain ⟨tb, htb⟩ : ∃ tb, (bo (nms xs)).length = tb := ⟨_, rfl⟩
      rw [htb]
      have htbb : tb ≤ 6000 := by have := hlen.out; have := hnl.out; omega
      obtain ⟨ob, hob⟩ : ∃ ob, base true ms xs = ob := ⟨_, rfl⟩
      have hob2 : o1 + (if tb = 0 then 0 else pz tb) = ob := by rw [← hob, ← HO1.out, ← htb]; rfl
      have hobb : ob ≤ 100000 := by rw [← hob]; exact Hx.out
      have HOB := hid hob
      clear hob ov hb2 h1 htb
      by_cases ht0 : tb = 0
      · subst ht0
        have hx : ob = o1 := by simpa using hob2.symm
        subst hx
        clear hob2
        go_wp2_with (at_make; go_must (refine Cel.wpList_make0 w2 n (by omega) w.heap.size hb02.size rfl _ _ rfl _ _ rfl rfl ?_); intro v0 w0 ho0 hb0; obtain ⟨A0, c0, rfl, _⟩ := ho0.reads)
        have hb00 := hb02.trans (hb0.mono hb02.size)
        have HW := hid (fun k (hk : k ≤ n) => offAt_le (o := ob) hok k (by have := Hl.out; omega))
        clear hb0
        go_loopw [9, 12, 45] (fun a v i W => ∃ (k : Nat) (A1 : Option Addr) (c1 : Nat), a = .int .i64 (offAt ob xs k : Int) ∧ v = .slice A1 k c1 ∧ i = .int .i64 (k : Int) ∧ k ≤ n ∧ Cel.Own 3 1 W w.heap.size (.slice A1 k c1) k (ints ((List.range k).map (offAt ob xs))) ∧ Below w.heap.size w W) (fun _ _ i _ => n - (intOf i).toNat)
        case atStart => exact ⟨0, A0, c0, by first | (simp [offAt]; done) | (have := H8.out; simp [offAt]; omega), rfl, rfl, by omega, by simpa [ints] using ho0, hb00⟩
        case round =>
          obtain ⟨k, A1, c1, rfl, rfl, rfl, hk, hO, hb⟩ := hrel
          by_cases hlt : k < n
          · have hkl : k < xs.length := by have := Hl.out; omega
            have hki : (k : Int) < (n : Int) := by omega
            obtain ⟨⟨b, o, rfl, hbK, hcell⟩, _, _⟩ := (h.below (hb.mono hK)).2 k hkl
            have HT : Hid (ints ((List.range (k + 1)).map (offAt ob xs)) = ints ((List.range k).map (offAt ob xs)) ++ [.int .i64 (offAt ob xs k : Int)]) := hid (by rw [List.range_succ]; simp [ints])
            have HN : Hid (offAt ob xs (k + 1) = offAt ob xs k + pz xs[k].len) := hid (offAt_succ hkl)
            have hx2 := (hok xs[k] (List.getElem_mem hkl)).len
            have hbd := HW.out k hk
            have hb1 := hb.alloc hb.size (.cells #[.string xs[k].name, .int .i64 xs[k].time, .int .i64 xs[k].uid, .int .i64 xs[k].gid, .int .i64 xs[k].mode, .slice xs[k].ptr xs[k].len xs[k].cap] 49)
            have hrow := heap_alloc_new wr (.cells #[.string xs[k].name, .int .i64 xs[k].time, .int .i64 xs[k].uid, .int .i64 xs[k].gid, .int .i64 xs[k].mode, .slice xs[k].ptr xs[k].len xs[k].cap] 49)
            have hO1 := hO.alloc (.cells #[.string xs[k].name, .int .i64 xs[k].time, .int .i64 xs[k].uid, .int .i64 xs[k].gid, .int .i64 xs[k].mode, .slice xs[k].ptr xs[k].len xs[k].cap] 49)
            generalize xs[k] = x at *
            obtain ⟨x0, x1, x2, x3, x4, x5, x6, x7, x8⟩ := x
            obtain ⟨p0, p1, p2, p3, p4, p5⟩ := hcell
            simp only at *
            have hp := hid (partSize_any x6 (by omega))
            have e2 : ((60 + x6 + x6 % 2 : Nat) : Int) = ((pz x6 : Nat) : Int) := rfl
            have hq : IntKind.i64.wrap ((offAt ob xs k : Int) + ((pz x6 : Nat) : Int)) = (offAt ob xs (k + 1) : Int) := by rw [IntKind.wrap_i64, HN.out]; unfold pz; omega
            rw [e2] at hp
            generalize ((pz x6 : Nat) : Int) = pm at *
            generalize (offAt ob xs k : Int) = ok at *
            obtain ⟨on, hon⟩ : ∃ on : Int, (offAt ob xs (k + 1) : Int) = on := ⟨_, rfl⟩
            have HON := hid hon
            rw [hon] at hq
            clear hO hb hon e2 hbd HN
            go_upto_region 14 with fail
            generalize wr.alloc (.cells #[.string x0, .int .i64 x1, .int .i64 x2, .int .i64 x3, .int .i64 x4, .slice x5 x6 x7] 49) = w1' at *
            generalize wr.heap.size = g at *
            go_upto_region 15 with (at_builtin; go_must (refine Cel.wpList_push kI w1' w.heap.size (.slice A1 k c1) k _ hO1 hb1.size 1 1 #[.int .i64 ok] (0, 0) rfl (by simp [Value.oneCell']) (by omega) (by omega) rfl (.tmp 49) (.tmp 51) rfl rfl rfl ?_); intro v2 w2' ho2 hb2 hot _; obtain ⟨A2, c2, rfl, _⟩ := ho2.reads)
            have e3 : ints ((List.range k).map (offAt ob xs)) ++ #[Value.int .i64 ok].toList = ints ((List.range (k + 1)).map (offAt ob xs)) := by rw [HT.out]
            rw [e3] at ho2
            have hrow2 := hot _ _ hrow (fun _ _ e => by simp at e)
            have d5 := cell_of_row _ g 5 _ _ _ hrow2
            have hb02' := hb1.trans hb2
            clear hrow hO1 hb1 hb2 hot e3 p0 p1 p2 p3 p4 p5 hrow2
            go_wp2_with fail
            refine (hp.out _).mono ?_
            rintro e w3 ⟨rfl, rfl⟩
            go_wp2_with fail
            go_roundw
            all_goals first
              | exact ⟨k + 1, A2, c2, by rw [HON.out], rfl, by go_num, by omega, ho2, hb02'⟩
              | (simp [intOf]; omega)
          · obtain rfl : k = n := by omega
            have HR : Hid ((if (fitL 0 xs).2 = 0 then offL (base true ms xs) xs else []) = (List.range k).map (offAt ob xs)) := hid (by rw [HF.out, if_pos rfl, HOB.out]; unfold offL; rw [Hl.out])
            go_wp2_with fail
            go_ret
            refine ⟨A1, k, c1, rfl, ?_, hb⟩
            rw [HR.out]
            exact hO
      · have hti : (0 : Int) < (tb : Int) := by omega
        have e1 : o1 + pz tb = ob := by rw [if_neg ht0] at hob2; exact hob2
        have hp := hid (partSize_any tb (by omega))
        have e2 : ((60 + tb + tb % 2 : Nat) : Int) = ((pz tb : Nat) : Int) := rfl
        have hq : IntKind.i64.wrap ((o1 : Int) + ((pz tb : Nat) : Int)) = (ob : Int) := by rw [IntKind.wrap_i64]; omega
        rw [e2] at hp
        generalize ((pz tb : Nat) : Int) = pm at *
        clear e1 e2 hob2
        go_wp2_with fail
        refine (hp.out _).mono ?_
        rintro e w3 ⟨rfl, rfl⟩
        go_wp2_with (at_make; go_must (refine Cel.wpList_make0 w3 n (by omega) w.heap.size hb02.size rfl _ _ rfl _ _ rfl rfl ?_); intro v0 w0 ho0 hb0; obtain ⟨A0, c0, rfl, _⟩ := ho0.reads)
        have hb00 := hb02.trans (hb0.mono hb02.size)
        have HW := hid (fun k (hk : k ≤ n) => offAt_le (o := ob) hok k (by have := Hl.out; omega))
        clear hb0
        go_loopw [9, 12, 45] (fun a v i W => ∃ (k : Nat) (A1 : Option Addr) (c1 : Nat), a = .int .i64 (offAt ob xs k : Int) ∧ v = .slice A1 k c1 ∧ i = .int .i64 (k : Int) ∧ k ≤ n ∧ Cel.Own 3 1 W w.heap.size (.slice A1 k c1) k (ints ((List.range k).map (offAt ob xs))) ∧ Below w.heap.size w W) (fun _ _ i _ => n - (intOf i).toNat)
        case atStart => exact ⟨0, A0, c0, by first | (simp [offAt]; done) | (have := H8.out; simp [offAt]; omega), rfl, rfl, by omega, by simpa [ints] using ho0, hb00⟩
        case round =>
          obtain ⟨k, A1, c1, rfl, rfl, rfl, hk, hO, hb⟩ := hrel
          by_cases hlt : k < n
          · have hkl : k < xs.length := by have := Hl.out; omega
            have hki : (k : Int) < (n : Int) := by omega
            obtain ⟨⟨b, o, rfl, hbK, hcell⟩, _, _⟩ := (h.below (hb.mono hK)).2 k hkl
            have HT : Hid (ints ((List.range (k + 1)).map (offAt ob xs)) = ints ((List.range k).map (offAt ob xs)) ++ [.int .i64 (offAt ob xs k : Int)]) := hid (by rw [List.range_succ]; simp [ints])
            have HN : Hid (offAt ob xs (k + 1) = offAt ob xs k + pz xs[k].len) := hid (offAt_succ hkl)
            have hx2 := (hok xs[k] (List.getElem_mem hkl)).len
            have hbd := HW.out k hk
            have hb1 := hb.alloc hb.size (.cells #[.string xs[k].name, .int .i64 xs[k].time, .int .i64 xs[k].uid, .int .i64 xs[k].gid, .int .i64 xs[k].mode, .slice xs[k].ptr xs[k].len xs[k].cap] 49)
            have hrow := heap_alloc_new wr (.cells #[.string xs[k].name, .int .i64 xs[k].time, .int .i64 xs[k].uid, .int .i64 xs[k].gid, .int .i64 xs[k].mode, .slice xs[k].ptr xs[k].len xs[k].cap] 49)
            have hO1 := hO.alloc (.cells #[.string xs[k].name, .int .i64 xs[k].time, .int .i64 xs[k].uid, .int .i64 xs[k].gid, .int .i64 xs[k].mode, .slice xs[k].ptr xs[k].len xs[k].cap] 49)
            generalize xs[k] = x at *
            obtain ⟨x0, x1, x2, x3, x4, x5, x6, x7, x8⟩ := x
            obtain ⟨p0, p1, p2, p3, p4, p5⟩ := hcell
            simp only at *
            have hp := hid (partSize_any x6 (by omega))
            have e2 : ((60 + x6 + x6 % 2 : Nat) : Int) = ((pz x6 : Nat) : Int) := rfl
            have hq : IntKind.i64.wrap ((offAt ob xs k : Int) + ((pz x6 : Nat) : Int)) = (offAt ob xs (k + 1) : Int) := by rw [IntKind.wrap_i64, HN.out]; unfold pz; omega
            rw [e2] at hp
            generalize ((pz x6 : Nat) : Int) = pm at *
            generalize (offAt ob xs k : Int) = ok at *
            obtain ⟨on, hon⟩ : ∃ on : Int, (offAt ob xs (k + 1) : Int) = on := ⟨_, rfl⟩
            have HON := hid hon
            rw [hon] at hq
            clear hO hb hon e2 hbd HN
            go_upto_region 14 with fail
            generalize wr.alloc (.cells #[.string x0, .int .i64 x1, .int .i64 x2, .int .i64 x3, .int .i64 x4, .slice x5 x6 x7] 49) = w1' at *
            generalize wr.heap.size = g at *
            go_upto_region 15 with (at_builtin; go_must (refine Cel.wpList_push kI w1' w.heap.size (.slice A1 k c1) k _ hO1 hb1.size 1 1 #[.int .i64 ok] (0, 0) rfl (by simp [Value.oneCell']) (by omega) (by omega) rfl (.tmp 49) (.tmp 51) rfl rfl rfl ?_); intro v2 w2' ho2 hb2 hot _; obtain ⟨A2, c2, rfl, _⟩ := ho2.reads)
            have e3 : ints ((List.range k).map (offAt ob xs)) ++ #[Value.int .i64 ok].toList = ints ((List.range (k + 1)).map (offAt ob xs)) := by rw [HT.out]
            rw [e3] at ho2
            have hrow2 := hot _ _ hrow (fun _ _ e => by simp at e)
            have d5 := cell_of_row _ g 5 _ _ _ hrow2
            have hb02' := hb1.trans hb2
            clear hrow hO1 hb1 hb2 hot e3 p0 p1 p2 p3 p4 p5 hrow2
            go_wp2_with fail
            refine (hp.out _).mono ?_
            rintro e w3 ⟨rfl, rfl⟩
            go_wp2_with fail
            go_roundw
            all_goals first
              | exact ⟨k + 1, A2, c2, by rw [HON.out], rfl, by go_num, by omega, ho2, hb02'⟩
              | (simp [intOf]; omega)
          · obtain rfl : k = n := by omega
            have HR : Hid ((if (fitL 0 xs).2 = 0 then offL (base true ms xs) xs else []) = (List.range k).map (offAt ob xs)) := hid (by rw [HF.out, if_pos rfl, HOB.out]; unfold offL; rw [Hl.out])
            go_wp2_with fail
            go_ret
            refine ⟨A1, k, c1, rfl, ?_, hb⟩
            rw [HR.out]
            exact hO
  · have HR : Hid ((if (fitL 0 xs).2 = 0 then offL (base hm ms xs) xs else []) = []) := hid (by rw [HF.out, if_neg hz])
    go_wp2_with fail
    go_ret
    refine ⟨none, 0, 0, rfl, ?_, hb1⟩
    rw [HR.out]
    exact Cel.Own.nil _ _ _ _
end Go.Proofs.YtpedngfmjhpojaaGreatDoor.Arw
