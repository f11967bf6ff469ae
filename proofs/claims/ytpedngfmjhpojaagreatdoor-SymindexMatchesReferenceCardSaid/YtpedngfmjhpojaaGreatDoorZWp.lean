/-
  arparse's reference: Copy; what of members counts for an archive.
-/
import Derived.Test.YtpedngfmjhpojaaGreatDoorZWm
import Derived.Test.YtpedngfmjhpojaaGreatDoorZWs
namespace Go.Proofs.YtpedngfmjhpojaaGreatDoor.Arw
open Go.RowKit Go.Proofs Go.Proofs.YtpedngfmjhpojaaGreatDoor.Byt Go.Proofs.YtpedngfmjhpojaaGreatDoor.Dec Go.Proofs.YtpedngfmjhpojaaGreatDoor.Lnm Go.Proofs.YtpedngfmjhpojaaGreatDoor.Hdr Go.Proofs.YtpedngfmjhpojaaGreatDoor.Arp
open Go.Proofs.YtpedngfmjhpojaaGreatDoor.Sls (Fr blk Oth)

/-- A member but for where its data lies. -/
def core (x : Mem) : Mem := { x with ptr := none, cap := 0 }
theorem fitsM_core (x : Mem) : fitsM (core x) = fitsM x := rfl
theorem fitL_core : ∀ (k : Nat) (xs : List Mem), fitL k (xs.map core) = fitL k xs
  | _, [] => rfl
  | k, x :: r => by
    rw [List.map_cons, fitL, fitL, fitsM_core, fitL_core (k + 1) r]
theorem nms_core (xs : List Mem) : nms (xs.map core) = nms xs := by unfold nms; rw [List.map_map]; rfl
theorem flat_core : ∀ (fs : List ByteArray) (xs : List Mem), flat (List.zipWith setN fs (xs.map core)) = flat (List.zipWith setN fs xs)
  | [], xs => by simp
  | f :: fs, [] => rfl
  | f :: fs, x :: r => by
    rw [List.map_cons, List.zipWith_cons_cons, List.zipWith_cons_cons]
    show flat ([_] ++ _) = flat ([_] ++ _)
    rw [flat_append, flat_append, flat_core fs r, flat_one, flat_one]
    rfl
theorem arch_core (hm : Bool) (md : List UInt8) (xs : List Mem) : arch hm md (xs.map core) = arch hm md xs := by
  unfold arch bodyP
  rw [nms_core, flat_core]
theorem offAt_core (o : Nat) (xs : List Mem) (k : Nat) : offAt o (xs.map core) k = offAt o xs k := by
  unfold offAt
  rw [← List.map_take, List.map_map]
  rfl
theorem base_core (hm : Bool) (ms : Nat) (xs : List Mem) : base hm ms (xs.map core) = base hm ms xs := by
  unfold base
  rw [nms_core]
theorem offL_core (o : Nat) (xs : List Mem) : offL o (xs.map core) = offL o xs := by
  unfold offL
  rw [List.length_map]
  exact List.map_congr_left fun k _ => offAt_core o xs k
theorem core_len {xs ys : List Mem} (h : ys.map core = xs.map core) : ys.length = xs.length := by
  have := congrArg List.length h
  rwa [List.length_map, List.length_map] at this
theorem core_mok {xs ys : List Mem} (h : ys.map core = xs.map core) (hok : ∀ x ∈ xs, MOk x) : ∀ y ∈ ys, MOk y := fun y hy => by
  have h1 : core y ∈ xs.map core := by rw [← h]; exact List.mem_map_of_mem hy
  obtain ⟨x, hx, e⟩ := List.mem_map.1 h1
  have hk := hok x hx
  have e0 : y.name = x.name := (congrArg Mem.name e).symm
  have e1 : y.len = x.len := (congrArg Mem.len e).symm
  have e2 : y.time = x.time := (congrArg Mem.time e).symm
  have e3 : y.uid = x.uid := (congrArg Mem.uid e).symm
  have e4 : y.gid = x.gid := (congrArg Mem.gid e).symm
  have e5 : y.mode = x.mode := (congrArg Mem.mode e).symm
  exact ⟨by rw [e0]; exact hk.name, by rw [e1]; exact hk.len, by rw [e2]; exact hk.t, by rw [e3]; exact hk.u, by rw [e4]; exact hk.g, by rw [e5]; exact hk.m⟩
theorem same_core : ∀ {xs ys : List Mem}, ys.map core = xs.map core → sameMs ys xs = true
  | [], [], _ => rfl
  | x :: r, y :: l, h => by
    rw [List.map_cons, List.map_cons] at h
    injection h with h1 h2
    have e0 : y.name = x.name := (congrArg Mem.name h1 : (core y).name = (core x).name)
    have e2 : y.time = x.time := (congrArg Mem.time h1 : (core y).time = (core x).time)
    have e3 : y.uid = x.uid := (congrArg Mem.uid h1 : (core y).uid = (core x).uid)
    have e4 : y.gid = x.gid := (congrArg Mem.gid h1 : (core y).gid = (core x).gid)
    have e5 : y.mode = x.mode := (congrArg Mem.mode h1 : (core y).mode = (core x).mode)
    have e6 : y.data = x.data := (congrArg Mem.data h1 : (core y).data = (core x).data)
    unfold sameMs
    rw [same_core h2, Bool.and_true]
    unfold Mem.same
    rw [e0, e2, e3, e4, e5, e6]
    simp [sameM]
  | [], _ :: _, h => by simp at h
  | _ :: _, [], h => by simp at h
/-- Members of one's own are read. -/
theorem rdM_own {w : World} {K n c : Nat} {A : Option Addr} {xs : List Mem} (h : Cel.Own 49 6 w K (.slice A n c) n (mcells xs)) (hd : OwnM w K xs) (hs : ∀ x ∈ xs, x.len ≤ 140737488355328) : RdM w w.heap.size A n xs := by
  obtain ⟨A', c', e, hr, _⟩ := h.reads
  injection e with e1 _ e3
  subst e1 e3
  have hl : xs.length = n := by have := hr.1; rw [mcells_length] at this; omega
  refine ⟨hl, fun k hk => ⟨?_, ?_, hs _ (List.getElem_mem hk)⟩⟩
  · obtain ⟨q0, q1, q2, q3, q4, q5⟩ := mcells_at xs k hk
    have key : ∀ j v, (mcells xs)[k * 6 + j]? = some v → ∃ b o : Nat, A = some ⟨b, o, none⟩ ∧ b < w.heap.size ∧ w.cell? ⟨b, o + k * 6 + j, none⟩ = some v := fun j v hv => by
      obtain ⟨hj, e⟩ := List.getElem?_eq_some_iff.1 hv
      obtain ⟨b, o, e2, hb, hc⟩ := hr.2 (k * 6 + j) hj
      exact ⟨b, o, e2, hb, by rw [Nat.add_assoc, hc, e]⟩
    obtain ⟨b, o, rfl, hb, k0⟩ := key 0 _ q0
    obtain ⟨b1, o1, e1, _, k1⟩ := key 1 _ q1
    obtain ⟨b2, o2, e2, _, k2⟩ := key 2 _ q2
    obtain ⟨b3, o3, e3, _, k3⟩ := key 3 _ q3
    obtain ⟨b4, o4, e4, _, k4⟩ := key 4 _ q4
    obtain ⟨b5, o5, e5, _, k5⟩ := key 5 _ q5
    cases e1; cases e2; cases e3; cases e4; cases e5
    exact ⟨b, o, rfl, hb, k0, k1, k2, k3, k4, k5⟩
  · obtain ⟨A2, c2, e2, hr2, _⟩ := (hd _ (List.getElem_mem hk)).reads
    injection e2 with e3 _ _
    rw [e3]
    exact hr2
/-- What Copy gives. -/
def Copies (xs : List Mem) (w : World) (e : Ending) (w' : World) : Prop :=
  ∃ A n c ys, e = .returned (.slice A n c) ∧ RdM w' w'.heap.size A n ys ∧ ys.map core = xs.map core ∧ Below w.heap.size w w' ∧ ∀ y ∈ ys, y.len ≤ y.cap ∧ y.cap ≤ maxLen

set_option linter.unusedSimpArgs false in
set_option maxRecDepth 100000 in
set_option maxHeartbeats 4000000 in
theorem rcopy_any (K : Nat) (A : Option Addr) (n c : Nat) (xs : List Mem) (w : World) (h : RdM w K A n xs) (hK : K ≤ w.heap.size) (hok : ∀ x ∈ xs, MOk x) (hn : n ≤ 20) :
    Calls Tryz.prog 21 #[.slice A n c] w (Copies xs w) := by
  have Hl := hid h.1
  go_enter Tryz.func21, Tryz.ntmps21
  go_wp2_with fail
  go_loopw [4, 3] (fun i v W => ∃ (k : Nat) (A1 : Option Addr) (c1 : Nat) (ys : List Mem), i = .int .i64 (k : Int) ∧ v = .slice A1 k c1 ∧ k ≤ n ∧ Cel.Own 49 6 W w.heap.size (.slice A1 k c1) k (mcells ys) ∧ OwnM W w.heap.size ys ∧ Hid (ys.map core = (xs.take k).map core) ∧ Below w.heap.size w W) (fun i _ _ => n - (intOf i).toNat)
  case atStart => exact ⟨0, none, 0, [], rfl, rfl, by omega, Cel.Own.nil _ _ _ _, fun x hx => (by cases hx), hid (by simp), Below.refl _ _⟩
  case round =>
    obtain ⟨k, A1, c1, ys, rfl, rfl, hk, hO, hD, hC, hb⟩ := hrel
    by_cases hlt : k < n
    · have hkl : k < xs.length := by have := Hl.out; omega
      have hki : (k : Int) < (n : Int) := by omega
      have hxk := (hok xs[k] (List.getElem_mem hkl)).len
      obtain ⟨⟨b, o, rfl, hbK, hcell⟩, hxd, _⟩ := (h.below (hb.mono hK)).2 k hkl
      have HT : Hid ((xs.take (k + 1)).map core = (xs.take k).map core ++ [core xs[k]]) := hid (by rw [List.take_succ_eq_append_getElem hkl, List.map_append]; rfl)
      generalize xs[k] = x at *
      obtain ⟨x0, x1, x2, x3, x4, x5, x6, x7, x8⟩ := x
      obtain ⟨p0, p1, p2, p3, p4, p5⟩ := hcell
      simp only at *
      have hrow := heap_alloc_new wr (.cells #[.string x0, .int .i64 x1, .int .i64 x2, .int .i64 x3, .int .i64 x4, .slice x5 x6 x7] 49)
      have hb1 := (Below.refl wr.heap.size wr).alloc (Nat.le_refl _) (.cells #[.string x0, .int .i64 x1, .int .i64 x2, .int .i64 x3, .int .i64 x4, .slice x5 x6 x7] 49)
      have hs1 : (wr.alloc (.cells #[.string x0, .int .i64 x1, .int .i64 x2, .int .i64 x3, .int .i64 x4, .slice x5 x6 x7] 49)).heap.size = wr.heap.size + 1 := World.size_alloc _ _
      go_upto_region 6 with fail
      generalize wr.alloc (.cells #[.string x0, .int .i64 x1, .int .i64 x2, .int .i64 x3, .int .i64 x4, .slice x5 x6 x7] 49) = w1 at *
      have hgl : wr.heap.size < w1.heap.size := by omega
      have hbe := (Below.refl w1.heap.size w1).alloc (Nat.le_refl _) (.cells #[] 5)
      have hxd1 := ((hxd.below (hb1.mono (by have := hb.size; omega))).below (hbe.mono (by have := hb.size; omega)))
      have hrow1 := (hbe.block _ hgl).trans hrow
      clear hs1
      have d5 := cell_of_row _ wr.heap.size 5 _ _ _ hrow1
      have hlit := Byt.Own.lit0 w1 w1.heap.size (Nat.le_refl _)
      go_upto_region 7 with (at_builtin; go_must (refine wpList_app2 _ w1.heap.size _ 0 [] hlit hbe.size x5 x6 x7 K x8 hxd1 (by omega) rfl (.tmp 16) (.tmp 18) rfl rfl rfl ?_); intro v2 w2 ho2 hb2 _; rw [Nat.zero_add, List.nil_append] at ho2; obtain ⟨A2, c2, rfl, _⟩ := ho2.reads; have hrow2 := (hb2.block _ hgl).trans hrow1; have f2 : ∀ o, w2.frozen? ⟨wr.heap.size, o, none⟩ = false := (fun o => by simp [World.frozen?, hrow2]); have e5 := cell_of_row _ wr.heap.size 5 _ _ _ hrow2)
      have hrow3 := heap_setCell_same w2 wr.heap.size 5 _ _ (.slice A2 x6 c2) hrow2
      have hb03 : Below wr.heap.size wr (w2.setCell ⟨wr.heap.size, 5, none⟩ (.slice A2 x6 c2)) := (hb1.trans ((hbe.trans hb2).mono (Nat.le_of_lt hgl))).setCell (p := ⟨wr.heap.size, 5, none⟩) (Nat.le_refl _) _
      have o3 := Own.cel.2 ((Own.cel.1 ho2).setc hrow2 (by decide) 5 (.slice A2 x6 c2))
      clear hrow hrow1 hrow2 f2 e5 d5 hlit hbe hb1 hb2 ho2 hxd1 hxd
      generalize w2.setCell ⟨wr.heap.size, 5, none⟩ (.slice A2 x6 c2) = w3 at *
      have hO3 := hO.below hb03
      have hD3 := hD.keep hb03
      have hb3 := hb.trans (hb03.mono hb.size)
      have hwr := hb.size
      have d0 := cell_of_row _ wr.heap.size 0 _ _ _ hrow3
      have d1 := cell_of_row _ wr.heap.size 1 _ _ _ hrow3
      have d2 := cell_of_row _ wr.heap.size 2 _ _ _ hrow3
      have d3 := cell_of_row _ wr.heap.size 3 _ _ _ hrow3
      have d4 := cell_of_row _ wr.heap.size 4 _ _ _ hrow3
      have d5 := cell_of_row _ wr.heap.size 5 _ _ _ hrow3
      clear hO hD hb hb03
      go_wp2_with (at_builtin; go_must (refine Cel.wpList_push kM w3 w.heap.size (.slice A1 k c1) k _ hO3 hb3.size 1 1 #[.string x0, .int .i64 x1, .int .i64 x2, .int .i64 x3, .int .i64 x4, .slice A2 x6 c2] (0, 0) rfl (by simp [Value.oneCell']) (by omega) (by omega) rfl (.tmp 21) (.tmp 23) rfl rfl rfl ?_); intro v4 w4 ho4 hb4 hot4 _; obtain ⟨A4, c4, rfl, _⟩ := ho4.reads)
      have hD4 : OwnM w4 w.heap.size (ys ++ [mem1 x0 x1 x2 x3 x4 A2 x6 c2 x8]) := fun y hy => by
        rcases List.mem_append.1 hy with hy | hy
        · exact bown_oth (hD3 y hy) hot4 (by decide)
        · rw [List.mem_singleton] at hy
          subst hy
          exact bown_oth (o3.more (by omega)) hot4 (by decide)
      have ho4' : Cel.Own 49 6 w4 w.heap.size (.slice A4 (k + 1) c4) (k + 1) (mcells (ys ++ [mem1 x0 x1 x2 x3 x4 A2 x6 c2 x8])) := by rw [mcells_append]; exact ho4
      have hC4 : Hid ((ys ++ [mem1 x0 x1 x2 x3 x4 A2 x6 c2 x8]).map core = (xs.take (k + 1)).map core) := hid (by rw [HT.out, List.map_append, hC.out]; rfl)
      have hb04 := hb3.trans hb4
      clear d0 d1 d2 d3 d4 d5 hrow3 hO3 hD3 o3 hot4 hb4 hb3 ho4
      go_roundw
      all_goals first
        | exact ⟨k + 1, A4, c4, ys ++ [mem1 x0 x1 x2 x3 x4 A2 x6 c2 x8], by go_num, by go_num, by omega, ho4', hD4, hC4, hb04⟩
        | (simp [intOf]; omega)
    · obtain rfl : k = n := by omega
      have hT : xs.take k = xs := List.take_of_length_le (by have := Hl.out; omega)
      rw [hT] at hC
      have hsz : ∀ y ∈ ys, y.len ≤ 140737488355328 := fun y hy => by have := (core_mok hC.out hok y hy).len; omega
      have hR := rdM_own hO hD hsz
      have hcaps : Hid (∀ y ∈ ys, y.len ≤ y.cap ∧ y.cap ≤ maxLen) := hid fun y hy => by
        obtain ⟨_, _, e, _, h1, h2⟩ := (hD y hy).reads
        injection e with _ _ e3
        rw [e3]
        exact ⟨h1, h2⟩
      go_wp2_with fail
      go_ret
      exact ⟨A1, k, c1, ys, rfl, hR, hC.out, hb, hcaps.out⟩
end Go.Proofs.YtpedngfmjhpojaaGreatDoor.Arw
