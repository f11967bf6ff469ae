/-
  arwrite: parts.
-/
import Derived.Test.YtpedngfmjhpojaaGreatDoorZWh
namespace Go.Proofs.YtpedngfmjhpojaaGreatDoor.Arw
open Go.RowKit Go.Proofs Go.Proofs.YtpedngfmjhpojaaGreatDoor.Byt Go.Proofs.YtpedngfmjhpojaaGreatDoor.Dec Go.Proofs.YtpedngfmjhpojaaGreatDoor.Lnm Go.Proofs.YtpedngfmjhpojaaGreatDoor.Hdr Go.Proofs.YtpedngfmjhpojaaGreatDoor.Arp
open Go.Proofs.YtpedngfmjhpojaaGreatDoor.Sls (Fr blk Oth)

/-- The cells of parts. -/
def pcl : List Mem → List Value
  | [] => []
  | x :: r => [.string x.name, .int .i64 x.time, .int .i64 x.uid, .int .i64 x.gid, .int .i64 x.mode, .int .i64 (x.len : Int), .slice x.ptr x.len x.cap] ++ pcl r
theorem pcl_append : ∀ a b : List Mem, pcl (a ++ b) = pcl a ++ pcl b
  | [], b => rfl
  | x :: r, b => by rw [List.cons_append, pcl, pcl_append r b, pcl, List.append_assoc]
theorem pcl_length : ∀ a : List Mem, (pcl a).length = a.length * 7
  | [] => rfl
  | x :: r => by rw [pcl, List.length_append, pcl_length r, List.length_cons]; simp; omega
theorem pcl_at : ∀ (a : List Mem) (k : Nat) (h : k < a.length), (pcl a)[k * 7]? = some (.string a[k].name) ∧ (pcl a)[k * 7 + 1]? = some (.int .i64 a[k].time) ∧ (pcl a)[k * 7 + 2]? = some (.int .i64 a[k].uid) ∧ (pcl a)[k * 7 + 3]? = some (.int .i64 a[k].gid) ∧ (pcl a)[k * 7 + 4]? = some (.int .i64 a[k].mode) ∧ (pcl a)[k * 7 + 5]? = some (.int .i64 (a[k].len : Int)) ∧ (pcl a)[k * 7 + 6]? = some (.slice a[k].ptr a[k].len a[k].cap)
  | x :: r, 0, _ => by simp [pcl]
  | x :: r, k + 1, h => by
    have ih := pcl_at r k (by simpa using h)
    have e : ∀ j, (pcl (x :: r))[(k + 1) * 7 + j]? = (pcl r)[k * 7 + j]? := fun j => by
      rw [pcl, List.getElem?_append_right (by simp; omega)]
      congr 1
      simp
      omega
    have e0 := e 0
    rw [Nat.add_zero, Nat.add_zero] at e0
    rw [e0, e 1, e 2, e 3, e 4, e 5, e 6]
    simpa using ih
theorem kP : Cel.Kind 118 147 7 80 (.agg #[.string ⟨#[]⟩, .int .i64 0, .int .i64 0, .int .i64 0, .int .i64 0, .int .i64 0, .slice none 0 0]) := ⟨by kernel_rfl, by kernel_rfl, by kernel_rfl, by decide⟩
/-- A list of parts of one's own is read. -/
theorem RdP.of {w : World} {K n c : Nat} {A : Option Addr} {ps : List Mem} (h : Cel.Own 147 7 w K (.slice A n c) n (pcl ps)) : RdP w A n ps := by
  obtain ⟨A', c', e, hr, _⟩ := h.reads
  injection e with e1 _ e3
  subst e1 e3
  have hl : ps.length = n := by have := hr.1; rw [pcl_length] at this; omega
  refine ⟨hl, fun k hk => ?_⟩
  obtain ⟨q0, q1, q2, q3, q4, q5, q6⟩ := pcl_at ps k hk
  have key : ∀ j v, (pcl ps)[k * 7 + j]? = some v → ∃ b o : Nat, A = some ⟨b, o, none⟩ ∧ b < w.heap.size ∧ w.cell? ⟨b, o + k * 7 + j, none⟩ = some v := fun j v hv => by
    obtain ⟨hj, e⟩ := List.getElem?_eq_some_iff.1 hv
    obtain ⟨b, o, e2, hb, hc⟩ := hr.2 (k * 7 + j) hj
    exact ⟨b, o, e2, hb, by rw [Nat.add_assoc, hc, e]⟩
  obtain ⟨b, o, rfl, hb, k0⟩ := key 0 _ q0
  obtain ⟨b1, o1, e1, _, k1⟩ := key 1 _ q1
  obtain ⟨b2, o2, e2, _, k2⟩ := key 2 _ q2
  obtain ⟨b3, o3, e3, _, k3⟩ := key 3 _ q3
  obtain ⟨b4, o4, e4, _, k4⟩ := key 4 _ q4
  obtain ⟨b5, o5, e5, _, k5⟩ := key 5 _ q5
  obtain ⟨b6, o6, e6, _, k6⟩ := key 6 _ q6
  cases e1; cases e2; cases e3; cases e4; cases e5; cases e6
  exact ⟨b, o, rfl, hb, k0, k1, k2, k3, k4, k5, k6⟩
theorem sown_oth {t : TypeId} {w w' : World} {K n : Nat} {v : Value} {l : List ByteArray} (h : Sls.Own w K v n l) (ho : Oth t w w') (ht : t ≠ 9) : Sls.Own w' K v n l := by
  refine ⟨h.1, ?_⟩
  rcases h.2 with h | ⟨g, cap, cur, m, hv, hg, hh, r⟩
  · exact .inl h
  · exact .inr ⟨g, cap, cur, m, hv, hg, ho g _ hh (fun cs m' e => by injection e with _ e _; exact ht e.symm), r⟩
theorem bown_oth {t : TypeId} {w w' : World} {K n : Nat} {v : Value} {l : List UInt8} (h : Byt.Own w K v n l) (ho : Oth t w w') (ht : 5 ≠ t) : Byt.Own w' K v n l :=
  Own.cel.2 ((Own.cel.1 h).oth ho ht)

/-- What parts gives. -/
def Parts (hm : Bool) (mA : Option Addr) (mn mc : Nat) (md : List UInt8) (xs : List Mem) (w : World) (e : Ending) (w' : World) : Prop :=
  ∃ (AP : Option Addr) (cP : Nat) (At : Option Addr) (ct : Nat), e = .returned (.slice AP (mapP hm mA mn mc md ++ (tabP At (bo (nms xs)).length ct (bo (nms xs)) ++ bodyP xs)).length cP) ∧
    Cel.Own 147 7 w' w.heap.size (.slice AP (mapP hm mA mn mc md ++ (tabP At (bo (nms xs)).length ct (bo (nms xs)) ++ bodyP xs)).length cP) (mapP hm mA mn mc md ++ (tabP At (bo (nms xs)).length ct (bo (nms xs)) ++ bodyP xs)).length (pcl (mapP hm mA mn mc md ++ (tabP At (bo (nms xs)).length ct (bo (nms xs)) ++ bodyP xs))) ∧
    Byt.Own w' w.heap.size (.slice At (bo (nms xs)).length ct) (bo (nms xs)).length (bo (nms xs)) ∧ Below w.heap.size w w'

theorem Parts.fin {hm : Bool} {mA : Option Addr} {mn mc : Nat} {md : List UInt8} {xs : List Mem} {w : World} {At : Option Addr} {tn ct : Nat} (htn : (bo (nms xs)).length = tn) {pre : List Mem} (hpre : mapP hm mA mn mc md ++ tabP At tn ct (bo (nms xs)) = pre) {A1 : Option Addr} {q c1 : Nat} {W : World}
    (h1 : Cel.Own 147 7 W w.heap.size (.slice A1 q c1) q (pcl (pre ++ bodyP xs))) (h2 : Byt.Own W w.heap.size (.slice At tn ct) tn (bo (nms xs))) (h3 : Below w.heap.size w W) : Parts hm mA mn mc md xs w (.returned (.slice A1 q c1)) W := by
  subst htn
  have e1 : mapP hm mA mn mc md ++ (tabP At (bo (nms xs)).length ct (bo (nms xs)) ++ bodyP xs) = pre ++ bodyP xs := by rw [← List.append_assoc, hpre]
  have e2 : (pre ++ bodyP xs).length = q := by have := h1.1; rw [pcl_length] at this; omega
  refine ⟨A1, c1, At, ct, ?_, ?_, h2, h3⟩
  · rw [e1, e2]
  · rw [e1, e2]; exact h1

set_option linter.unusedSimpArgs false in
set_option maxRecDepth 100000 in
set_option maxHeartbeats 8000000 in
theorem parts_any (hm : Bool) (mA : Option Addr) (mn mc : Nat) (md : List UInt8) (K : Nat) (A : Option Addr) (n c : Nat) (xs : List Mem) (w : World) (hg : GndP w) (h : RdM w K A n xs) (hK : K ≤ w.heap.size) (hok : ∀ x ∈ xs, MOk x) (hn : n ≤ 20) (hfit : ∀ x ∈ xs, fitsM x = 0) :
    Calls Tryz.prog 57 #[.bool hm, .slice mA mn mc, .slice A n c] w (Parts hm mA mn mc md xs w) := by
  have Hl := hid h.1
  have Hg := hid hg
  have Hfit := hid hfit
  have hlen := hid (bo_len (nms xs))
  have hnl : Hid ((nms xs).length = n) := hid (by simp [nms, Hl.out])
  have hfl : Hid ((fo (nms xs)).length = n) := hid (by rw [show fo (nms xs) = flds [] (nms xs) from if_pos (nms_allV hfit), flds_length, hnl.out])
  have HL := hid (longNames_any K A n c xs)
  clear hg hfit
  go_enter Tryz.func57, Tryz.ntmps57
  cases hm
  · have o0 : Cel.Own 147 7 w w.heap.size (.slice none 0 0) 0 (pcl (mapP false mA mn mc md)) := Cel.Own.nil _ _ _ _
    have hb1 := Below.refl w.heap.size w
    go_wp2_with fail
    refine (HL.out w (Hg.out.on hb1) (h.below (hb1.mono hK)) (by have := hb1.size; omega) hok (by omega)).mono ?_
    rintro e w2 ⟨v, f, rfl, oT, oF, hb2⟩
    obtain ⟨At, ct, rfl, _⟩ := oT.reads
    obtain ⟨Af, cf, rfl, _⟩ := oF.reads
    have hb02 := hb1.trans (hb2.mono hb1.size)
    have oP0 := o0.below hb2
    replace oT := oT.more hb1.size
    replace oF := oF.more hb1.size
    rw [hfl.out] at oF
    obtain ⟨tn, htn⟩ : ∃ tn, (bo (nms xs)).length = tn := ⟨_, rfl⟩
    have HTn := hid htn
    rw [htn, hfl.out]
    rw [htn] at oT
    have htb : tn ≤ 6000 := by have := hlen.out; rw [htn] at this; have := hnl.out; omega
    clear o0 hb1 hb2 htn
    by_cases ht0 : tn = 0
    · have hti : ¬ (0 : Int) < (tn : Int) := by omega
      obtain ⟨pre, hpre⟩ : ∃ pre, mapP false mA mn mc md ++ tabP At tn ct (bo (nms xs)) = pre := ⟨_, rfl⟩
      have HPre := hid hpre
      have oP := oP0
      have hbq := hb02
      rw [show mapP false mA mn mc md = pre by rw [← hpre, ht0]; simp [tabP]] at oP
      clear hpre oP0 hb02
      go_wp2_with fail
      go_loopw [39, 7] (fun i v W => ∃ (k : Nat) (A1 : Option Addr) (c1 : Nat), i = .int .i64 (k : Int) ∧ v = .slice A1 k c1 ∧ k ≤ n ∧ Cel.Own 147 7 W w.heap.size (.slice A1 k c1) k (pcl (pre ++ (bodyP xs).take k)) ∧ Sls.Own W w.heap.size (.slice Af n cf) n (fo (nms xs)) ∧ Byt.Own W w.heap.size (.slice At tn ct) tn (bo (nms xs)) ∧ Below w.heap.size w W) (fun i _ _ => n - (intOf i).toNat)
      case atStart => exact ⟨0, none, 0, rfl, rfl, by omega, by simpa using oP, oF, oT, hbq⟩
      case round =>
        obtain ⟨k, A1, c1, rfl, rfl, hk, hO, hF, hT, hb⟩ := hrel
        by_cases hlt : k < n
        · have hkl : k < xs.length := by have := Hl.out; omega
          have hki : (k : Int) < (n : Int) := by omega
          obtain ⟨⟨b, o, rfl, hbK, hcell⟩, _, _⟩ := (h.below (hb.mono hK)).2 k hkl
          have HB := hid (bodyP_at Hfit.out hkl)
          have HBl := hid (bodyP_length Hfit.out)
          obtain ⟨fk, hfk⟩ : ∃ fk, fld ((nms xs).take k) xs[k].name = fk := ⟨_, rfl⟩
          have HT : Hid (pcl (pre ++ (bodyP xs).take (k + 1)) = pcl (pre ++ (bodyP xs).take k) ++ [.string fk, .int .i64 xs[k].time, .int .i64 xs[k].uid, .int .i64 xs[k].gid, .int .i64 xs[k].mode, .int .i64 (xs[k].len : Int), .slice xs[k].ptr xs[k].len xs[k].cap]) := hid (by
            rw [List.take_succ_eq_append_getElem (by rw [HBl.out]; exact hkl), HB.out, hfk, ← List.append_assoc, pcl_append (pre ++ _)]
            rfl)
          have HFk : Hid ((fo (nms xs))[k]? = some fk) := hid (by rw [← hfk]; exact fo_at Hfit.out hkl)
          have hF1 := hF.alloc (.cells #[.string xs[k].name, .int .i64 xs[k].time, .int .i64 xs[k].uid, .int .i64 xs[k].gid, .int .i64 xs[k].mode, .slice xs[k].ptr xs[k].len xs[k].cap] 49)
          have hT1 := hT.alloc (.cells #[.string xs[k].name, .int .i64 xs[k].time, .int .i64 xs[k].uid, .int .i64 xs[k].gid, .int .i64 xs[k].mode, .slice xs[k].ptr xs[k].len xs[k].cap] 49)
          have hO1 := hO.alloc (.cells #[.string xs[k].name, .int .i64 xs[k].time, .int .i64 xs[k].uid, .int .i64 xs[k].gid, .int .i64 xs[k].mode, .slice xs[k].ptr xs[k].len xs[k].cap] 49)
          have hb1 := hb.alloc hb.size (.cells #[.string xs[k].name, .int .i64 xs[k].time, .int .i64 xs[k].uid, .int .i64 xs[k].gid, .int .i64 xs[k].mode, .slice xs[k].ptr xs[k].len xs[k].cap] 49)
          have hrow := heap_alloc_new wr (.cells #[.string xs[k].name, .int .i64 xs[k].time, .int .i64 xs[k].uid, .int .i64 xs[k].gid, .int .i64 xs[k].mode, .slice xs[k].ptr xs[k].len xs[k].cap] 49)
          clear hfk HB HBl hO hF hT hb
          generalize xs[k] = x at *
          have Hm := hid fun W => memberHeader_any fk x W
          obtain ⟨x0, x1, x2, x3, x4, x5, x6, x7, x8⟩ := x
          obtain ⟨p0, p1, p2, p3, p4, p5⟩ := hcell
          simp only [Mem.val] at *
          go_upto_region 10 with fail
          generalize wr.alloc (.cells #[.string x0, .int .i64 x1, .int .i64 x2, .int .i64 x3, .int .i64 x4, .slice x5 x6 x7] 49) = w1' at *
          generalize wr.heap.size = g at *
          obtain ⟨Af', cf', ef, hrd, _, hcf⟩ := hF1.reads
          injection ef with ef1 _ ef3
          subst ef1 ef3
          obtain ⟨b', o', ef4, hb', hfc⟩ := hrd.2 k (by rw [hrd.1]; omega)
          have hfe : (fo (nms xs))[k]'(by rw [hrd.1]; omega) = fk := by
            have := HFk.out
            rw [List.getElem?_eq_getElem (by rw [hrd.1]; omega)] at this
            injection this
          rw [hfe] at hfc
          subst ef4
          clear hrd hfe
          refine Ord.Till.begin (fun W' => W'.cell? ⟨g, 0, none⟩ = some (.string x0) ∧ W'.cell? ⟨g, 1, none⟩ = some (.int .i64 x1) ∧ W'.cell? ⟨g, 2, none⟩ = some (.int .i64 x2) ∧ W'.cell? ⟨g, 3, none⟩ = some (.int .i64 x3) ∧ W'.cell? ⟨g, 4, none⟩ = some (.int .i64 x4) ∧ W'.cell? ⟨g, 5, none⟩ = some (.slice x5 x6 x7) ∧ W'.cell? ⟨b', o' + k, none⟩ = some (.string fk)) 60 (by kernel_rfl) ?_
          have hS0 : (fun W' => W'.cell? ⟨g, 0, none⟩ = some (.string x0) ∧ W'.cell? ⟨g, 1, none⟩ = some (.int .i64 x1) ∧ W'.cell? ⟨g, 2, none⟩ = some (.int .i64 x2) ∧ W'.cell? ⟨g, 3, none⟩ = some (.int .i64 x3) ∧ W'.cell? ⟨g, 4, none⟩ = some (.int .i64 x4) ∧ W'.cell? ⟨g, 5, none⟩ = some (.slice x5 x6 x7) ∧ W'.cell? ⟨b', o' + k, none⟩ = some (.string fk)) w1'.drew := ⟨cell_of_row _ g 0 _ _ _ hrow, cell_of_row _ g 1 _ _ _ hrow, cell_of_row _ g 2 _ _ _ hrow, cell_of_row _ g 3 _ _ _ hrow, cell_of_row _ g 4 _ _ _ hrow, cell_of_row _ g 5 _ _ _ hrow, hfc⟩
          refine Ord.Till.take' 0 (some 44) (oi := _) (x := ?_) rfl rfl (by kernel_rfl) (by kernel_rfl) (by kernel_rfl) (by kernel_rfl) (fun _ _ _ h => h) (by kernel_rfl) ?_ hS0 ?_
          rotate_left 1
          · intro v hv; obtain ⟨z0, z1, z2, z3, z4, z5, z6⟩ := hv; go_simp; first | done | with_reducible rfl
          try simp only [Act.put, List.setIfInBounds_toArray, List.set_cons_zero, List.set_cons_succ]
          refine Ord.Till.take' 1 (some 45) (oi := _) (x := ?_) rfl rfl (by kernel_rfl) (by kernel_rfl) (by kernel_rfl) (by kernel_rfl) (fun _ _ _ h => h) (by kernel_rfl) ?_ hS0 ?_
          rotate_left 1
          · intro v hv; obtain ⟨z0, z1, z2, z3, z4, z5, z6⟩ := hv; go_simp; first | done | with_reducible rfl
          try simp only [Act.put, List.setIfInBounds_toArray, List.set_cons_zero, List.set_cons_succ]
          refine Ord.Till.take' 2 (some 46) (oi := _) (x := ?_) rfl rfl (by kernel_rfl) (by kernel_rfl) (by kernel_rfl) (by kernel_rfl) (fun _ _ _ h => h) (by kernel_rfl) ?_ hS0 ?_
          rotate_left 1
          · intro v hv; obtain ⟨z0, z1, z2, z3, z4, z5, z6⟩ := hv; go_simp; first | done | with_reducible rfl
          try simp only [Act.put, List.setIfInBounds_toArray, List.set_cons_zero, List.set_cons_succ]
          refine Ord.Till.take' 3 (some 47) (oi := _) (x := ?_) rfl rfl (by kernel_rfl) (by kernel_rfl) (by kernel_rfl) (by kernel_rfl) (fun _ _ _ h => h) (by kernel_rfl) ?_ hS0 ?_
          rotate_left 1
          · intro v hv; obtain ⟨z0, z1, z2, z3, z4, z5, z6⟩ := hv; go_simp; first | done | with_reducible rfl
          try simp only [Act.put, List.setIfInBounds_toArray, List.set_cons_zero, List.set_cons_succ]
          refine Ord.Till.take' 4 (some 48) (oi := _) (x := ?_) rfl rfl (by kernel_rfl) (by kernel_rfl) (by kernel_rfl) (by kernel_rfl) (fun _ _ _ h => h) (by kernel_rfl) ?_ hS0 ?_
          rotate_left 1
          · intro v hv; obtain ⟨z0, z1, z2, z3, z4, z5, z6⟩ := hv; go_simp; first | done | with_reducible rfl
          try simp only [Act.put, List.setIfInBounds_toArray, List.set_cons_zero, List.set_cons_succ]
          refine Ord.Till.take' 5 (some 49) (oi := _) (x := ?_) rfl rfl (by kernel_rfl) (by kernel_rfl) (by kernel_rfl) (by kernel_rfl) (fun _ _ _ h => h) (by kernel_rfl) ?_ hS0 ?_
          rotate_left 1
          · intro v hv; obtain ⟨z0, z1, z2, z3, z4, z5, z6⟩ := hv; go_simp; first | done | with_reducible rfl
          try simp only [Act.put, List.setIfInBounds_toArray, List.set_cons_zero, List.set_cons_succ]
          refine Ord.Till.take' 7 (some 51) (oi := _) (x := ?_) rfl rfl (by kernel_rfl) (by kernel_rfl) (by kernel_rfl) (by kernel_rfl) (fun _ _ _ h => h) (by kernel_rfl) ?_ hS0 ?_
          rotate_left 1
          · intro v hv; obtain ⟨z0, z1, z2, z3, z4, z5, z6⟩ := hv; go_simp; first | done | with_reducible rfl
          try simp only [Act.put, List.setIfInBounds_toArray, List.set_cons_zero, List.set_cons_succ]
          refine Ord.Till.take' 8 (some 52) (oi := _) (x := ?_) rfl rfl (by kernel_rfl) (by kernel_rfl) (by kernel_rfl) (by kernel_rfl) (fun _ _ _ h => h) (by kernel_rfl) ?_ hS0 ?_
          rotate_left 1
          · intro v hv; obtain ⟨z0, z1, z2, z3, z4, z5, z6⟩ := hv; go_simp; first | done | with_reducible rfl
          try simp only [Act.put, List.setIfInBounds_toArray, List.set_cons_zero, List.set_cons_succ]
          refine Ord.Till.step 6 (by kernel_rfl) rfl (fun C hC => ?_)
          go_simp
          go_at_call 86
          refine (Hm.out _).mono ?_
          rintro e w2' ⟨rfl, hb2⟩
          have hg1 : g < w1'.heap.size := (Array.getElem?_eq_some_iff.1 hrow).1
          have hrow2 := (hb2.block g hg1).trans hrow
          have hb2' : Below w1'.heap.size w1' w2' := (Below.refl _ _).drew.trans hb2
          have hfc2 := (cell_eq (o := o' + k) (hb2'.block b' hb')).trans hfc
          have hF2 := hF1.below hb2'
          have hT2 := hT1.below hb2'
          have hO2 := hO1.below hb2'
          have hb02 := hb1.trans (hb2'.mono hb1.size)
          have hb'2 : b' < w2'.heap.size := by have := hb2'.size; omega
          have hS2 : (fun W' => W'.cell? ⟨g, 0, none⟩ = some (.string x0) ∧ W'.cell? ⟨g, 1, none⟩ = some (.int .i64 x1) ∧ W'.cell? ⟨g, 2, none⟩ = some (.int .i64 x2) ∧ W'.cell? ⟨g, 3, none⟩ = some (.int .i64 x3) ∧ W'.cell? ⟨g, 4, none⟩ = some (.int .i64 x4) ∧ W'.cell? ⟨g, 5, none⟩ = some (.slice x5 x6 x7) ∧ W'.cell? ⟨b', o' + k, none⟩ = some (.string fk)) w2' := ⟨cell_of_row _ g 0 _ _ _ hrow2, cell_of_row _ g 1 _ _ _ hrow2, cell_of_row _ g 2 _ _ _ hrow2, cell_of_row _ g 3 _ _ _ hrow2, cell_of_row _ g 4 _ _ _ hrow2, cell_of_row _ g 5 _ _ _ hrow2, hfc2⟩
          go_wp2_with fail
          refine hC.out _ _ (fun _ => hS2) ?_
          clear hC C hS0 hF1 hT1 hO1 hb1 hb2 hb2' hrow hfc
          try simp only [List.getElem_toArray, List.getElem_cons_zero, List.getElem_cons_succ, Act.put, List.setIfInBounds_toArray, List.set_cons_zero, List.set_cons_succ]
          refine Ord.Till.step 9 (by kernel_rfl) rfl (fun C hC => ?_)
          go_simp
          refine hC.out _ _ (fun _ => hS2) ?_
          clear hC C
          try simp only [List.getElem_toArray, List.getElem_cons_zero, List.getElem_cons_succ, Act.put, List.setIfInBounds_toArray, List.set_cons_zero, List.set_cons_succ]
          have hrow3 := (Below.heap_alloc w2' (.cells #[.string fk, .int .i64 x1, .int .i64 x2, .int .i64 x3, .int .i64 x4, .int .i64 (x6 : Int), .slice x5 x6 x7] 147) g (Array.getElem?_eq_some_iff.1 hrow2).1).trans hrow2
          have hfc3 := (cell_eq (o := o' + k) (Below.heap_alloc w2' (.cells #[.string fk, .int .i64 x1, .int .i64 x2, .int .i64 x3, .int .i64 x4, .int .i64 (x6 : Int), .slice x5 x6 x7] 147) b' hb'2)).trans hfc2
          have hS3 : (fun W' => W'.cell? ⟨g, 0, none⟩ = some (.string x0) ∧ W'.cell? ⟨g, 1, none⟩ = some (.int .i64 x1) ∧ W'.cell? ⟨g, 2, none⟩ = some (.int .i64 x2) ∧ W'.cell? ⟨g, 3, none⟩ = some (.int .i64 x3) ∧ W'.cell? ⟨g, 4, none⟩ = some (.int .i64 x4) ∧ W'.cell? ⟨g, 5, none⟩ = some (.slice x5 x6 x7) ∧ W'.cell? ⟨b', o' + k, none⟩ = some (.string fk)) (w2'.alloc (.cells #[.string fk, .int .i64 x1, .int .i64 x2, .int .i64 x3, .int .i64 x4, .int .i64 (x6 : Int), .slice x5 x6 x7] 147)) := ⟨cell_of_row _ g 0 _ _ _ hrow3, cell_of_row _ g 1 _ _ _ hrow3, cell_of_row _ g 2 _ _ _ hrow3, cell_of_row _ g 3 _ _ _ hrow3, cell_of_row _ g 4 _ _ _ hrow3, cell_of_row _ g 5 _ _ _ hrow3, hfc3⟩
          have hF3 := hF2.alloc (.cells #[.string fk, .int .i64 x1, .int .i64 x2, .int .i64 x3, .int .i64 x4, .int .i64 (x6 : Int), .slice x5 x6 x7] 147)
          have hT3 := hT2.alloc (.cells #[.string fk, .int .i64 x1, .int .i64 x2, .int .i64 x3, .int .i64 x4, .int .i64 (x6 : Int), .slice x5 x6 x7] 147)
          have hO3 := hO2.alloc (.cells #[.string fk, .int .i64 x1, .int .i64 x2, .int .i64 x3, .int .i64 x4, .int .i64 (x6 : Int), .slice x5 x6 x7] 147)
          have hb03 := hb02.alloc hb02.size (.cells #[.string fk, .int .i64 x1, .int .i64 x2, .int .i64 x3, .int .i64 x4, .int .i64 (x6 : Int), .slice x5 x6 x7] 147)
          have hnew := heap_alloc_new w2' (.cells #[.string fk, .int .i64 x1, .int .i64 x2, .int .i64 x3, .int .i64 x4, .int .i64 (x6 : Int), .slice x5 x6 x7] 147)
          refine Ord.Till.step 10 (by kernel_rfl) rfl (fun C hC => ?_)
          go_simp
          refine hC.out _ _ (fun _ => hS3) ?_
          clear hC C hS2 hF2 hT2 hO2 hb02 hrow2 hfc2 hb'2
          try simp only [List.getElem_toArray, List.getElem_cons_zero, List.getElem_cons_succ, Act.put, List.setIfInBounds_toArray, List.set_cons_zero, List.set_cons_succ]
          refine Ord.Till.step 11 (by kernel_rfl) rfl (fun C hC => ?_)
          refine Cel.step_app kP _ w.heap.size (.slice A1 k c1) k (pcl (pre ++ (bodyP xs).take k)) hO3 hb03.size ⟨w2'.heap.size, 0, none⟩ 1 1 [.string fk, .int .i64 x1, .int .i64 x2, .int .i64 x3, .int .i64 x4, .int .i64 (x6 : Int), .slice x5 x6 x7] rfl (by simp [Value.oneCell']) (World.news_of_block (cs := #[.string fk, .int .i64 x1, .int .i64 x2, .int .i64 x3, .int .i64 x4, .int .i64 (x6 : Int), .slice x5 x6 x7]) (t := 147) (fr := (0, 0)) hnew) (by omega) (by omega) (by rfl) _ _ (by rfl) (by rfl) (by rfl) ?_
          intro v4 w4 ho4 hb4 hot4 _
          obtain ⟨A4, c4, rfl, _⟩ := ho4.reads
          have hrow4 := hot4 _ _ hrow3 (fun _ _ e => by simp at e)
          have hF4 := sown_oth hF3 hot4 (by decide)
          have hT4 := bown_oth hT3 hot4 (by decide)
          have hfc4 : w4.cell? ⟨b', o' + k, none⟩ = some (.string fk) := by
            obtain ⟨Af', cf', ef, hrd, _⟩ := hF4.reads
            injection ef with ef1 _ ef3
            subst ef1 ef3
            obtain ⟨b'', o'', ef4, _, hfc'⟩ := hrd.2 k (by rw [hrd.1]; omega)
            cases ef4
            have hfe : (fo (nms xs))[k]'(by rw [hrd.1]; omega) = fk := by
              have := HFk.out
              rw [List.getElem?_eq_getElem (by rw [hrd.1]; omega)] at this
              injection this
            rw [hfe] at hfc'
            exact hfc'
          have hS4 : (fun W' => W'.cell? ⟨g, 0, none⟩ = some (.string x0) ∧ W'.cell? ⟨g, 1, none⟩ = some (.int .i64 x1) ∧ W'.cell? ⟨g, 2, none⟩ = some (.int .i64 x2) ∧ W'.cell? ⟨g, 3, none⟩ = some (.int .i64 x3) ∧ W'.cell? ⟨g, 4, none⟩ = some (.int .i64 x4) ∧ W'.cell? ⟨g, 5, none⟩ = some (.slice x5 x6 x7) ∧ W'.cell? ⟨b', o' + k, none⟩ = some (.string fk)) w4 := ⟨cell_of_row _ g 0 _ _ _ hrow4, cell_of_row _ g 1 _ _ _ hrow4, cell_of_row _ g 2 _ _ _ hrow4, cell_of_row _ g 3 _ _ _ hrow4, cell_of_row _ g 4 _ _ _ hrow4, cell_of_row _ g 5 _ _ _ hrow4, hfc4⟩
          have hb04 := hb03.trans hb4
          refine hC.out _ _ (fun _ => hS4) ?_
          clear hC C hS3 hF3 hT3 hO3 hb03 hrow3 hfc3 hnew hot4 hb4
          try simp only [List.getElem_toArray, List.getElem_cons_zero, List.getElem_cons_succ, Act.put, List.setIfInBounds_toArray, List.set_cons_zero, List.set_cons_succ]
          refine Ord.Till.step 12 (by kernel_rfl) rfl (fun C hC => ?_)
          go_simp
          refine hC.out _ _ (fun _ => hS4) ?_
          clear hC C
          try simp only [List.getElem_toArray, List.getElem_cons_zero, List.getElem_cons_succ, Act.put, List.setIfInBounds_toArray, List.set_cons_zero, List.set_cons_succ]
          refine Ord.Till.done (by kernel_rfl) ?_ _
          clear hS4 hrow4 hfc4
          rw [← HT.out] at ho4
          go_wp2_with fail
          go_roundw
          all_goals first
            | exact ⟨k + 1, A4, c4, by go_num, rfl, by omega, ho4, hF4, hT4, hb04⟩
            | (simp [intOf]; omega)
        · obtain rfl : k = n := by omega
          have hTk : (bodyP xs).take k = bodyP xs := List.take_of_length_le (by rw [bodyP_length Hfit.out]; have := Hl.out; omega)
          rw [hTk] at hO
          go_wp2_with fail
          go_ret
          exact Parts.fin HTn.out HPre.out hO hT hb
    · have hti : (0 : Int) < (tn : Int) := by omega
      obtain ⟨pre, hpre⟩ : ∃ pre, mapP false mA mn mc md ++ tabP At tn ct (bo (nms xs)) = pre := ⟨_, rfl⟩
      have HPre := hid hpre
      go_wp2_with (at_builtin; go_must (refine Cel.wpList_push kP w2 w.heap.size _ 0 _ oP0 hb02.size 1 1 #[.string ⟨#[47, 47]⟩, .int .i64 0, .int .i64 0, .int .i64 0, .int .i64 0, .int .i64 (tn : Int), .slice At tn ct] (0, 0) rfl (by simp [Value.oneCell']) (by omega) (by omega) rfl (.tmp 29) (.tmp 35) rfl rfl rfl ?_); intro v3 w3 oP hb3 hot3 _; obtain ⟨A3, c3, rfl, _⟩ := oP.reads; have oF3 := sown_oth oF hot3 (by decide); have oT3 := bown_oth oT hot3 (by decide); have hbq := hb02.trans hb3; clear oP0 hb02 hot3 hb3 oF oT; have oF := oF3; have oT := oT3; clear oF3 oT3)
      go_loopw [39, 7] (fun i v W => ∃ (k : Nat) (A1 : Option Addr) (c1 : Nat), i = .int .i64 (k : Int) ∧ v = .slice A1 ((0 + 1) + k) c1 ∧ k ≤ n ∧ Cel.Own 147 7 W w.heap.size (.slice A1 ((0 + 1) + k) c1) ((0 + 1) + k) (pcl (pre ++ (bodyP xs).take k)) ∧ Sls.Own W w.heap.size (.slice Af n cf) n (fo (nms xs)) ∧ Byt.Own W w.heap.size (.slice At tn ct) tn (bo (nms xs)) ∧ Below w.heap.size w W) (fun i _ _ => n - (intOf i).toNat)
      case atStart => exact ⟨0, A3, c3, rfl, rfl, by omega, by rw [← hpre]; simpa [tabP, ht0, pcl_append, pcl, tpt] using oP, oF, oT, hbq⟩
      case round =>
        obtain ⟨k, A1, c1, rfl, rfl, hk, hO, hF, hT, hb⟩ := hrel
        by_cases hlt : k < n
        · have hkl : k < xs.length := by have := Hl.out; omega
          have hki : (k : Int) < (n : Int) := by omega
          obtain ⟨⟨b, o, rfl, hbK, hcell⟩, _, _⟩ := (h.below (hb.mono hK)).2 k hkl
          have HB := hid (bodyP_at Hfit.out hkl)
          have HBl := hid (bodyP_length Hfit.out)
          obtain ⟨fk, hfk⟩ : ∃ fk, fld ((nms xs).take k) xs[k].name = fk := ⟨_, rfl⟩
          have HT : Hid (pcl (pre ++ (bodyP xs).take (k + 1)) = pcl (pre ++ (bodyP xs).take k) ++ [.string fk, .int .i64 xs[k].time, .int .i64 xs[k].uid, .int .i64 xs[k].gid, .int .i64 xs[k].mode, .int .i64 (xs[k].len : Int), .slice xs[k].ptr xs[k].len xs[k].cap]) := hid (by
            rw [List.take_succ_eq_append_getElem (by rw [HBl.out]; exact hkl), HB.out, hfk, ← List.append_assoc, pcl_append (pre ++ _)]
            rfl)
          have HFk : Hid ((fo (nms xs))[k]? = some fk) := hid (by rw [← hfk]; exact fo_at Hfit.out hkl)
          have hF1 := hF.alloc (.cells #[.string xs[k].name, .int .i64 xs[k].time, .int .i64 xs[k].uid, .int .i64 xs[k].gid, .int .i64 xs[k].mode, .slice xs[k].ptr xs[k].len xs[k].cap] 49)
          have hT1 := hT.alloc (.cells #[.string xs[k].name, .int .i64 xs[k].time, .int .i64 xs[k].uid, .int .i64 xs[k].gid, .int .i64 xs[k].mode, .slice xs[k].ptr xs[k].len xs[k].cap] 49)
          have hO1 := hO.alloc (.cells #[.string xs[k].name, .int .i64 xs[k].time, .int .i64 xs[k].uid, .int .i64 xs[k].gid, .int .i64 xs[k].mode, .slice xs[k].ptr xs[k].len xs[k].cap] 49)
          have hb1 := hb.alloc hb.size (.cells #[.string xs[k].name, .int .i64 xs[k].time, .int .i64 xs[k].uid, .int .i64 xs[k].gid, .int .i64 xs[k].mode, .slice xs[k].ptr xs[k].len xs[k].cap] 49)
          have hrow := heap_alloc_new wr (.cells #[.string xs[k].name, .int .i64 xs[k].time, .int .i64 xs[k].uid, .int .i64 xs[k].gid, .int .i64 xs[k].mode, .slice xs[k].ptr xs[k].len xs[k].cap] 49)
          clear hfk HB HBl hO hF hT hb
          generalize xs[k] = x at *
          have Hm := hid fun W => memberHeader_any fk x W
          obtain ⟨x0, x1, x2, x3, x4, x5, x6, x7, x8⟩ := x
          obtain ⟨p0, p1, p2, p3, p4, p5⟩ := hcell
          simp only [Mem.val] at *
          go_upto_region 10 with fail
          generalize wr.alloc (.cells #[.string x0, .int .i64 x1, .int .i64 x2, .int .i64 x3, .int .i64 x4, .slice x5 x6 x7] 49) = w1' at *
          generalize wr.heap.size = g at *
          obtain ⟨Af', cf', ef, hrd, _, hcf⟩ := hF1.reads
          injection ef with ef1 _ ef3
          subst ef1 ef3
          obtain ⟨b', o', ef4, hb', hfc⟩ := hrd.2 k (by rw [hrd.1]; omega)
          have hfe : (fo (nms xs))[k]'(by rw [hrd.1]; omega) = fk := by
            have := HFk.out
            rw [List.getElem?_eq_getElem (by rw [hrd.1]; omega)] at this
            injection this
          rw [hfe] at hfc
          subst ef4
          clear hrd hfe
          refine Ord.Till.begin (fun W' => W'.cell? ⟨g, 0, none⟩ = some (.string x0) ∧ W'.cell? ⟨g, 1, none⟩ = some (.int .i64 x1) ∧ W'.cell? ⟨g, 2, none⟩ = some (.int .i64 x2) ∧ W'.cell? ⟨g, 3, none⟩ = some (.int .i64 x3) ∧ W'.cell? ⟨g, 4, none⟩ = some (.int .i64 x4) ∧ W'.cell? ⟨g, 5, none⟩ = some (.slice x5 x6 x7) ∧ W'.cell? ⟨b', o' + k, none⟩ = some (.string fk)) 60 (by kernel_rfl) ?_
          have hS0 : (fun W' => W'.cell? ⟨g, 0, none⟩ = some (.string x0) ∧ W'.cell? ⟨g, 1, none⟩ = some (.int .i64 x1) ∧ W'.cell? ⟨g, 2, none⟩ = some (.int .i64 x2) ∧ W'.cell? ⟨g, 3, none⟩ = some (.int .i64 x3) ∧ W'.cell? ⟨g, 4, none⟩ = some (.int .i64 x4) ∧ W'.cell? ⟨g, 5, none⟩ = some (.slice x5 x6 x7) ∧ W'.cell? ⟨b', o' + k, none⟩ = some (.string fk)) w1'.drew := ⟨cell_of_row _ g 0 _ _ _ hrow, cell_of_row _ g 1 _ _ _ hrow, cell_of_row _ g 2 _ _ _ hrow, cell_of_row _ g 3 _ _ _ hrow, cell_of_row _ g 4 _ _ _ hrow, cell_of_row _ g 5 _ _ _ hrow, hfc⟩
          refine Ord.Till.take' 0 (some 44) (oi := _) (x := ?_) rfl rfl (by kernel_rfl) (by kernel_rfl) (by kernel_rfl) (by kernel_rfl) (fun _ _ _ h => h) (by kernel_rfl) ?_ hS0 ?_
          rotate_left 1
          · intro v hv; obtain ⟨z0, z1, z2, z3, z4, z5, z6⟩ := hv; go_simp; first | done | with_reducible rfl
          try simp only [Act.put, List.setIfInBounds_toArray, List.set_cons_zero, List.set_cons_succ]
          refine Ord.Till.take' 1 (some 45) (oi := _) (x := ?_) rfl rfl (by kernel_rfl) (by kernel_rfl) (by kernel_rfl) (by kernel_rfl) (fun _ _ _ h => h) (by kernel_rfl) ?_ hS0 ?_
          rotate_left 1
          · intro v hv; obtain ⟨z0, z1, z2, z3, z4, z5, z6⟩ := hv; go_simp; first | done | with_reducible rfl
          try simp only [Act.put, List.setIfInBounds_toArray, List.set_cons_zero, List.set_cons_succ]
          refine Ord.Till.take' 2 (some 46) (oi := _) (x := ?_) rfl rfl (by kernel_rfl) (by kernel_rfl) (by kernel_rfl) (by kernel_rfl) (fun _ _ _ h => h) (by kernel_rfl) ?_ hS0 ?_
          rotate_left 1
          · intro v hv; obtain ⟨z0, z1, z2, z3, z4, z5, z6⟩ := hv; go_simp; first | done | with_reducible rfl
          try simp only [Act.put, List.setIfInBounds_toArray, List.set_cons_zero, List.set_cons_succ]
          refine Ord.Till.take' 3 (some 47) (oi := _) (x := ?_) rfl rfl (by kernel_rfl) (by kernel_rfl) (by kernel_rfl) (by kernel_rfl) (fun _ _ _ h => h) (by kernel_rfl) ?_ hS0 ?_
          rotate_left 1
          · intro v hv; obtain ⟨z0, z1, z2, z3, z4, z5, z6⟩ := hv; go_simp; first | done | with_reducible rfl
          try simp only [Act.put, List.setIfInBounds_toArray, List.set_cons_zero, List.set_cons_succ]
          refine Ord.Till.take' 4 (some 48) (oi := _) (x := ?_) rfl rfl (by kernel_rfl) (by kernel_rfl) (by kernel_rfl) (by kernel_rfl) (fun _ _ _ h => h) (by kernel_rfl) ?_ hS0 ?_
          rotate_left 1
          · intro v hv; obtain ⟨z0, z1, z2, z3, z4, z5, z6⟩ := hv; go_simp; first | done | with_reducible rfl
          try simp only [Act.put, List.setIfInBounds_toArray, List.set_cons_zero, List.set_cons_succ]
          refine Ord.Till.take' 5 (some 49) (oi := _) (x := ?_) rfl rfl (by kernel_rfl) (by kernel_rfl) (by kernel_rfl) (by kernel_rfl) (fun _ _ _ h => h) (by kernel_rfl) ?_ hS0 ?_
          rotate_left 1
          · intro v hv; obtain ⟨z0, z1, z2, z3, z4, z5, z6⟩ := hv; go_simp; first | done | with_reducible rfl
          try simp only [Act.put, List.setIfInBounds_toArray, List.set_cons_zero, List.set_cons_succ]
          refine Ord.Till.take' 7 (some 51) (oi := _) (x := ?_) rfl rfl (by kernel_rfl) (by kernel_rfl) (by kernel_rfl) (by kernel_rfl) (fun _ _ _ h => h) (by kernel_rfl) ?_ hS0 ?_
          rotate_left 1
          · intro v hv; obtain ⟨z0, z1, z2, z3, z4, z5, z6⟩ := hv; go_simp; first | done | with_reducible rfl
          try simp only [Act.put, List.setIfInBounds_toArray, List.set_cons_zero, List.set_cons_succ]
          refine Ord.Till.take' 8 (some 52) (oi := _) (x := ?_) rfl rfl (by kernel_rfl) (by kernel_rfl) (by kernel_rfl) (by kernel_rfl) (fun _ _ _ h => h) (by kernel_rfl) ?_ hS0 ?_
          rotate_left 1
          · intro v hv; obtain ⟨z0, z1, z2, z3, z4, z5, z6⟩ := hv; go_simp; first | done | with_reducible rfl
          try simp only [Act.put, List.setIfInBounds_toArray, List.set_cons_zero, List.set_cons_succ]
          refine Ord.Till.step 6 (by kernel_rfl) rfl (fun C hC => ?_)
          go_simp
          go_at_call 86
          refine (Hm.out _).mono ?_
          rintro e w2' ⟨rfl, hb2⟩
          have hg1 : g < w1'.heap.size := (Array.getElem?_eq_some_iff.1 hrow).1
          have hrow2 := (hb2.block g hg1).trans hrow
          have hb2' : Below w1'.heap.size w1' w2' := (Below.refl _ _).drew.trans hb2
          have hfc2 := (cell_eq (o := o' + k) (hb2'.block b' hb')).trans hfc
          have hF2 := hF1.below hb2'
          have hT2 := hT1.below hb2'
          have hO2 := hO1.below hb2'
          have hb02 := hb1.trans (hb2'.mono hb1.size)
          have hb'2 : b' < w2'.heap.size := by have := hb2'.size; omega
          have hS2 : (fun W' => W'.cell? ⟨g, 0, none⟩ = some (.string x0) ∧ W'.cell? ⟨g, 1, none⟩ = some (.int .i64 x1) ∧ W'.cell? ⟨g, 2, none⟩ = some (.int .i64 x2) ∧ W'.cell? ⟨g, 3, none⟩ = some (.int .i64 x3) ∧ W'.cell? ⟨g, 4, none⟩ = some (.int .i64 x4) ∧ W'.cell? ⟨g, 5, none⟩ = some (.slice x5 x6 x7) ∧ W'.cell? ⟨b', o' + k, none⟩ = some (.string fk)) w2' := ⟨cell_of_row _ g 0 _ _ _ hrow2, cell_of_row _ g 1 _ _ _ hrow2, cell_of_row _ g 2 _ _ _ hrow2, cell_of_row _ g 3 _ _ _ hrow2, cell_of_row _ g 4 _ _ _ hrow2, cell_of_row _ g 5 _ _ _ hrow2, hfc2⟩
          go_wp2_with fail
          refine hC.out _ _ (fun _ => hS2) ?_
          clear hC C hS0 hF1 hT1 hO1 hb1 hb2 hb2' hrow hfc
          try simp only [List.getElem_toArray, List.getElem_cons_zero, List.getElem_cons_succ, Act.put, List.setIfInBounds_toArray, List.set_cons_zero, List.set_cons_succ]
          refine Ord.Till.step 9 (by kernel_rfl) rfl (fun C hC => ?_)
          go_simp
          refine hC.out _ _ (fun _ => hS2) ?_
          clear hC C
          try simp only [List.getElem_toArray, List.getElem_cons_zero, List.getElem_cons_succ, Act.put, List.setIfInBounds_toArray, List.set_cons_zero, List.set_cons_succ]
          have hrow3 := (Below.heap_alloc w2' (.cells #[.string fk, .int .i64 x1, .int .i64 x2, .int .i64 x3, .int .i64 x4, .int .i64 (x6 : Int), .slice x5 x6 x7] 147) g (Array.getElem?_eq_some_iff.1 hrow2).1).trans hrow2
          have hfc3 := (cell_eq (o := o' + k) (Below.heap_alloc w2' (.cells #[.string fk, .int .i64 x1, .int .i64 x2, .int .i64 x3, .int .i64 x4, .int .i64 (x6 : Int), .slice x5 x6 x7] 147) b' hb'2)).trans hfc2
          have hS3 : (fun W' => W'.cell? ⟨g, 0, none⟩ = some (.string x0) ∧ W'.cell? ⟨g, 1, none⟩ = some (.int .i64 x1) ∧ W'.cell? ⟨g, 2, none⟩ = some (.int .i64 x2) ∧ W'.cell? ⟨g, 3, none⟩ = some (.int .i64 x3) ∧ W'.cell? ⟨g, 4, none⟩ = some (.int .i64 x4) ∧ W'.cell? ⟨g, 5, none⟩ = some (.slice x5 x6 x7) ∧ W'.cell? ⟨b', o' + k, none⟩ = some (.string fk)) (w2'.alloc (.cells #[.string fk, .int .i64 x1, .int .i64 x2, .int .i64 x3, .int .i64 x4, .int .i64 (x6 : Int), .slice x5 x6 x7] 147)) := ⟨cell_of_row _ g 0 _ _ _ hrow3, cell_of_row _ g 1 _ _ _ hrow3, cell_of_row _ g 2 _ _ _ hrow3, cell_of_row _ g 3 _ _ _ hrow3, cell_of_row _ g 4 _ _ _ hrow3, cell_of_row _ g 5 _ _ _ hrow3, hfc3⟩
          have hF3 := hF2.alloc (.cells #[.string fk, .int .i64 x1, .int .i64 x2, .int .i64 x3, .int .i64 x4, .int .i64 (x6 : Int), .slice x5 x6 x7] 147)
          have hT3 := hT2.alloc (.cells #[.string fk, .int .i64 x1, .int .i64 x2, .int .i64 x3, .int .i64 x4, .int .i64 (x6 : Int), .slice x5 x6 x7] 147)
          have hO3 := hO2.alloc (.cells #[.string fk, .int .i64 x1, .int .i64 x2, .int .i64 x3, .int .i64 x4, .int .i64 (x6 : Int), .slice x5 x6 x7] 147)
          have hb03 := hb02.alloc hb02.size (.cells #[.string fk, .int .i64 x1, .int .i64 x2, .int .i64 x3, .int .i64 x4, .int .i64 (x6 : Int), .slice x5 x6 x7] 147)
          have hnew := heap_alloc_new w2' (.cells #[.string fk, .int .i64 x1, .int .i64 x2, .int .i64 x3, .int .i64 x4, .int .i64 (x6 : Int), .slice x5 x6 x7] 147)
          refine Ord.Till.step 10 (by kernel_rfl) rfl (fun C hC => ?_)
          go_simp
          refine hC.out _ _ (fun _ => hS3) ?_
          clear hC C hS2 hF2 hT2 hO2 hb02 hrow2 hfc2 hb'2
          try simp only [List.getElem_toArray, List.getElem_cons_zero, List.getElem_cons_succ, Act.put, List.setIfInBounds_toArray, List.set_cons_zero, List.set_cons_succ]
          refine Ord.Till.step 11 (by kernel_rfl) rfl (fun C hC => ?_)
          refine Cel.step_app kP _ w.heap.size (.slice A1 ((0 + 1) + k) c1) ((0 + 1) + k) (pcl (pre ++ (bodyP xs).take k)) hO3 hb03.size ⟨w2'.heap.size, 0, none⟩ 1 1 [.string fk, .int .i64 x1, .int .i64 x2, .int .i64 x3, .int .i64 x4, .int .i64 (x6 : Int), .slice x5 x6 x7] rfl (by simp [Value.oneCell']) (World.news_of_block (cs := #[.string fk, .int .i64 x1, .int .i64 x2, .int .i64 x3, .int .i64 x4, .int .i64 (x6 : Int), .slice x5 x6 x7]) (t := 147) (fr := (0, 0)) hnew) (by omega) (by omega) (by rfl) _ _ (by rfl) (by rfl) (by rfl) ?_
          intro v4 w4 ho4 hb4 hot4 _
          obtain ⟨A4, c4, rfl, _⟩ := ho4.reads
          have hrow4 := hot4 _ _ hrow3 (fun _ _ e => by simp at e)
          have hF4 := sown_oth hF3 hot4 (by decide)
          have hT4 := bown_oth hT3 hot4 (by decide)
          have hfc4 : w4.cell? ⟨b', o' + k, none⟩ = some (.string fk) := by
            obtain ⟨Af', cf', ef, hrd, _⟩ := hF4.reads
            injection ef with ef1 _ ef3
            subst ef1 ef3
            obtain ⟨b'', o'', ef4, _, hfc'⟩ := hrd.2 k (by rw [hrd.1]; omega)
            cases ef4
            have hfe : (fo (nms xs))[k]'(by rw [hrd.1]; omega) = fk := by
              have := HFk.out
              rw [List.getElem?_eq_getElem (by rw [hrd.1]; omega)] at this
              injection this
            rw [hfe] at hfc'
            exact hfc'
          have hS4 : (fun W' => W'.cell? ⟨g, 0, none⟩ = some (.string x0) ∧ W'.cell? ⟨g, 1, none⟩ = some (.int .i64 x1) ∧ W'.cell? ⟨g, 2, none⟩ = some (.int .i64 x2) ∧ W'.cell? ⟨g, 3, none⟩ = some (.int .i64 x3) ∧ W'.cell? ⟨g, 4, none⟩ = some (.int .i64 x4) ∧ W'.cell? ⟨g, 5, none⟩ = some (.slice x5 x6 x7) ∧ W'.cell? ⟨b', o' + k, none⟩ = some (.string fk)) w4 := ⟨cell_of_row _ g 0 _ _ _ hrow4, cell_of_row _ g 1 _ _ _ hrow4, cell_of_row _ g 2 _ _ _ hrow4, cell_of_row _ g 3 _ _ _ hrow4, cell_of_row _ g 4 _ _ _ hrow4, cell_of_row _ g 5 _ _ _ hrow4, hfc4⟩
          have hb04 := hb03.trans hb4
          refine hC.out _ _ (fun _ => hS4) ?_
          clear hC C hS3 hF3 hT3 hO3 hb03 hrow3 hfc3 hnew hot4 hb4
          try simp only [List.getElem_toArray, List.getElem_cons_zero, List.getElem_cons_succ, Act.put, List.setIfInBounds_toArray, List.set_cons_zero, List.set_cons_succ]
          refine Ord.Till.step 12 (by kernel_rfl) rfl (fun C hC => ?_)
          go_simp
          refine hC.out _ _ (fun _ => hS4) ?_
          clear hC C
          try simp only [List.getElem_toArray, List.getElem_cons_zero, List.getElem_cons_succ, Act.put, List.setIfInBounds_toArray, List.set_cons_zero, List.set_cons_succ]
          refine Ord.Till.done (by kernel_rfl) ?_ _
          clear hS4 hrow4 hfc4
          rw [← HT.out, Nat.add_assoc] at ho4
          go_wp2_with fail
          go_roundw
          all_goals first
            | exact ⟨k + 1, A4, c4, by go_num, by rw [Nat.add_assoc], by omega, ho4, hF4, hT4, hb04⟩
            | (simp [intOf]; omega)
        · obtain rfl : k = n := by omega
          have hTk : (bodyP xs).take k = bodyP xs := List.take_of_length_le (by rw [bodyP_length Hfit.out]; have := Hl.out; omega)
          rw [hTk] at hO
          go_wp2_with fail
          go_ret
          exact Parts.fin HTn.out HPre.out hO hT hb
  · have o00 : Cel.Own 147 7 w w.heap.size (.slice none 0 0) 0 [] := Cel.Own.nil _ _ _ _
    go_wp2_with (at_builtin; go_must (refine Cel.wpList_push kP w w.heap.size _ 0 _ o00 (Nat.le_refl _) 1 1 #[.string ⟨#[47]⟩, .int .i64 0, .int .i64 0, .int .i64 0, .int .i64 0, .int .i64 (mn : Int), .slice mA mn mc] (0, 0) rfl (by simp [Value.oneCell']) (by omega) (by omega) rfl (.tmp 13) (.tmp 19) rfl rfl rfl ?_); intro v1 w1 o0 hb1 _ _; obtain ⟨A0, c0, rfl, _⟩ := o0.reads; replace o0 : Cel.Own 147 7 w1 w.heap.size (.slice A0 (0 + 1) c0) (0 + 1) (pcl (mapP true mA mn mc md)) := o0; clear o00)
    refine (HL.out w1 (Hg.out.on hb1) (h.below (hb1.mono hK)) (by have := hb1.size; omega) hok (by omega)).mono ?_
    rintro e w2 ⟨v, f, rfl, oT, oF, hb2⟩
    obtain ⟨At, ct, rfl, _⟩ := oT.reads
    obtain ⟨Af, cf, rfl, _⟩ := oF.reads
    have hb02 := hb1.trans (hb2.mono hb1.size)
    have oP0 := o0.below hb2
    replace oT := oT.more hb1.size
    replace oF := oF.more hb1.size
    rw [hfl.out] at oF
    obtain ⟨tn, htn⟩ : ∃ tn, (bo (nms xs)).length = tn := ⟨_, rfl⟩
    have HTn := hid htn
    rw [htn, hfl.out]
    rw [htn] at oT
    have htb : tn ≤ 6000 := by have := hlen.out; rw [htn] at this; have := hnl.out; omega
    clear o0 hb1 hb2 htn
    by_cases ht0 : tn = 0
    · have hti : ¬ (0 : Int) < (tn : Int) := by omega
      obtain ⟨pre, hpre⟩ : ∃ pre, mapP true mA mn mc md ++ tabP At tn ct (bo (nms xs)) = pre := ⟨_, rfl⟩
      have HPre := hid hpre
      have oP := oP0
      have hbq := hb02
      rw [show mapP true mA mn mc md = pre by rw [← hpre, ht0]; simp [tabP]] at oP
      clear hpre oP0 hb02
      go_wp2_with fail
      go_loopw [39, 7] (fun i v W => ∃ (k : Nat) (A1 : Option Addr) (c1 : Nat), i = .int .i64 (k : Int) ∧ v = .slice A1 ((0 + 1) + k) c1 ∧ k ≤ n ∧ Cel.Own 147 7 W w.heap.size (.slice A1 ((0 + 1) + k) c1) ((0 + 1) + k) (pcl (pre ++ (bodyP xs).take k)) ∧ Sls.Own W w.heap.size (.slice Af n cf) n (fo (nms xs)) ∧ Byt.Own W w.heap.size (.slice At tn ct) tn (bo (nms xs)) ∧ Below w.heap.size w W) (fun i _ _ => n - (intOf i).toNat)
      case atStart => exact ⟨0, A0, c0, rfl, rfl, by omega, by simpa using oP, oF, oT, hbq⟩
      case round =>
        obtain ⟨k, A1, c1, rfl, rfl, hk, hO, hF, hT, hb⟩ := hrel
        by_cases hlt : k < n
        · have hkl : k < xs.length := by have := Hl.out; omega
          have hki : (k : Int) < (n : Int) := by omega
          obtain ⟨⟨b, o, rfl, hbK, hcell⟩, _, _⟩ := (h.below (hb.mono hK)).2 k hkl
          have HB := hid (bodyP_at Hfit.out hkl)
          have HBl := hid (bodyP_length Hfit.out)
          obtain ⟨fk, hfk⟩ : ∃ fk, fld ((nms xs).take k) xs[k].name = fk := ⟨_, rfl⟩
          have HT : Hid (pcl (pre ++ (bodyP xs).take (k + 1)) = pcl (pre ++ (bodyP xs).take k) ++ [.string fk, .int .i64 xs[k].time, .int .i64 xs[k].uid, .int .i64 xs[k].gid, .int .i64 xs[k].mode, .int .i64 (xs[k].len : Int), .slice xs[k].ptr xs[k].len xs[k].cap]) := hid (by
            rw [List.take_succ_eq_append_getElem (by rw [HBl.out]; exact hkl), HB.out, hfk, ← List.append_assoc, pcl_append (pre ++ _)]
            rfl)
          have HFk : Hid ((fo (nms xs))[k]? = some fk) := hid (by rw [← hfk]; exact fo_at Hfit.out hkl)
          have hF1 := hF.alloc (.cells #[.string xs[k].name, .int .i64 xs[k].time, .int .i64 xs[k].uid, .int .i64 xs[k].gid, .int .i64 xs[k].mode, .slice xs[k].ptr xs[k].len xs[k].cap] 49)
          have hT1 := hT.alloc (.cells #[.string xs[k].name, .int .i64 xs[k].time, .int .i64 xs[k].uid, .int .i64 xs[k].gid, .int .i64 xs[k].mode, .slice xs[k].ptr xs[k].len xs[k].cap] 49)
          have hO1 := hO.alloc (.cells #[.string xs[k].name, .int .i64 xs[k].time, .int .i64 xs[k].uid, .int .i64 xs[k].gid, .int .i64 xs[k].mode, .slice xs[k].ptr xs[k].len xs[k].cap] 49)
          have hb1 := hb.alloc hb.size (.cells #[.string xs[k].name, .int .i64 xs[k].time, .int .i64 xs[k].uid, .int .i64 xs[k].gid, .int .i64 xs[k].mode, .slice xs[k].ptr xs[k].len xs[k].cap] 49)
          have hrow := heap_alloc_new wr (.cells #[.string xs[k].name, .int .i64 xs[k].time, .int .i64 xs[k].uid, .int .i64 xs[k].gid, .int .i64 xs[k].mode, .slice xs[k].ptr xs[k].len xs[k].cap] 49)
          clear hfk HB HBl hO hF hT hb
          generalize xs[k] = x at *
          have Hm := hid fun W => memberHeader_any fk x W
          obtain ⟨x0, x1, x2, x3, x4, x5, x6, x7, x8⟩ := x
          obtain ⟨p0, p1, p2, p3, p4, p5⟩ := hcell
          simp only [Mem.val] at *
          go_upto_region 10 with fail
          generalize wr.alloc (.cells #[.string x0, .int .i64 x1, .int .i64 x2, .int .i64 x3, .int .i64 x4, .slice x5 x6 x7] 49) = w1' at *
          generalize wr.heap.size = g at *
          obtain ⟨Af', cf', ef, hrd, _, hcf⟩ := hF1.reads
          injection ef with ef1 _ ef3
          subst ef1 ef3
          obtain ⟨b', o', ef4, hb', hfc⟩ := hrd.2 k (by rw [hrd.1]; omega)
          have hfe : (fo (nms xs))[k]'(by rw [hrd.1]; omega) = fk := by
            have := HFk.out
            rw [List.getElem?_eq_getElem (by rw [hrd.1]; omega)] at this
            injection this
          rw [hfe] at hfc
          subst ef4
          clear hrd hfe
          refine Ord.Till.begin (fun W' => W'.cell? ⟨g, 0, none⟩ = some (.string x0) ∧ W'.cell? ⟨g, 1, none⟩ = some (.int .i64 x1) ∧ W'.cell? ⟨g, 2, none⟩ = some (.int .i64 x2) ∧ W'.cell? ⟨g, 3, none⟩ = some (.int .i64 x3) ∧ W'.cell? ⟨g, 4, none⟩ = some (.int .i64 x4) ∧ W'.cell? ⟨g, 5, none⟩ = some (.slice x5 x6 x7) ∧ W'.cell? ⟨b', o' + k, none⟩ = some (.string fk)) 60 (by kernel_rfl) ?_
          have hS0 : (fun W' => W'.cell? ⟨g, 0, none⟩ = some (.string x0) ∧ W'.cell? ⟨g, 1, none⟩ = some (.int .i64 x1) ∧ W'.cell? ⟨g, 2, none⟩ = some (.int .i64 x2) ∧ W'.cell? ⟨g, 3, none⟩ = some (.int .i64 x3) ∧ W'.cell? ⟨g, 4, none⟩ = some (.int .i64 x4) ∧ W'.cell? ⟨g, 5, none⟩ = some (.slice x5 x6 x7) ∧ W'.cell? ⟨b', o' + k, none⟩ = some (.string fk)) w1'.drew := ⟨cell_of_row _ g 0 _ _ _ hrow, cell_of_row _ g 1 _ _ _ hrow, cell_of_row _ g 2 _ _ _ hrow, cell_of_row _ g 3 _ _ _ hrow, cell_of_row _ g 4 _ _ _ hrow, cell_of_row _ g 5 _ _ _ hrow, hfc⟩
          refine Ord.Till.take' 0 (some 44) (oi := _) (x := ?_) rfl rfl (by kernel_rfl) (by kernel_rfl) (by kernel_rfl) (by kernel_rfl) (fun _ _ _ h => h) (by kernel_rfl) ?_ hS0 ?_
          rotate_left 1
          · intro v hv; obtain ⟨z0, z1, z2, z3, z4, z5, z6⟩ := hv; go_simp; first | done | with_reducible rfl
          try simp only [Act.put, List.setIfInBounds_toArray, List.set_cons_zero, List.set_cons_succ]
          refine Ord.Till.take' 1 (some 45) (oi := _) (x := ?_) rfl rfl (by kernel_rfl) (by kernel_rfl) (by kernel_rfl) (by kernel_rfl) (fun _ _ _ h => h) (by kernel_rfl) ?_ hS0 ?_
          rotate_left 1
          · intro v hv; obtain ⟨z0, z1, z2, z3, z4, z5, z6⟩ := hv; go_simp; first | done | with_reducible rfl
          try simp only [Act.put, List.setIfInBounds_toArray, List.set_cons_zero, List.set_cons_succ]
          refine Ord.Till.take' 2 (some 46) (oi := _) (x := ?_) rfl rfl (by kernel_rfl) (by kernel_rfl) (by kernel_rfl) (by kernel_rfl) (fun _ _ _ h => h) (by kernel_rfl) ?_ hS0 ?_
          rotate_left 1
          · intro v hv; obtain ⟨z0, z1, z2, z3, z4, z5, z6⟩ := hv; go_simp; first | done | with_reducible rfl
          try simp only [Act.put, List.setIfInBounds_toArray, List.set_cons_zero, List.set_cons_succ]
          refine Ord.Till.take' 3 (some 47) (oi := _) (x := ?_) rfl rfl (by kernel_rfl) (by kernel_rfl) (by kernel_rfl) (by kernel_rfl) (fun _ _ _ h => h) (by kernel_rfl) ?_ hS0 ?_
          rotate_left 1
          · intro v hv; obtain ⟨z0, z1, z2, z3, z4, z5, z6⟩ := hv; go_simp; first | done | with_reducible rfl
          try simp only [Act.put, List.setIfInBounds_toArray, List.set_cons_zero, List.set_cons_succ]
          refine Ord.Till.take' 4 (some 48) (oi := _) (x := ?_) rfl rfl (by kernel_rfl) (by kernel_rfl) (by kernel_rfl) (by kernel_rfl) (fun _ _ _ h => h) (by kernel_rfl) ?_ hS0 ?_
          rotate_left 1
          · intro v hv; obtain ⟨z0, z1, z2, z3, z4, z5, z6⟩ := hv; go_simp; first | done | with_reducible rfl
          try simp only [Act.put, List.setIfInBounds_toArray, List.set_cons_zero, List.set_cons_succ]
          refine Ord.Till.take' 5 (some 49) (oi := _) (x := ?_) rfl rfl (by kernel_rfl) (by kernel_rfl) (by kernel_rfl) (by kernel_rfl) (fun _ _ _ h => h) (by kernel_rfl) ?_ hS0 ?_
          rotate_left 1
          · intro v hv; obtain ⟨z0, z1, z2, z3, z4, z5, z6⟩ := hv; go_simp; first | done | with_reducible rfl
          try simp only [Act.put, List.setIfInBounds_toArray, List.set_cons_zero, List.set_cons_succ]
          refine Ord.Till.take' 7 (some 51) (oi := _) (x := ?_) rfl rfl (by kernel_rfl) (by kernel_rfl) (by kernel_rfl) (by kernel_rfl) (fun _ _ _ h => h) (by kernel_rfl) ?_ hS0 ?_
          rotate_left 1
          · intro v hv; obtain ⟨z0, z1, z2, z3, z4, z5, z6⟩ := hv; go_simp; first | done | with_reducible rfl
          try simp only [Act.put, List.setIfInBounds_toArray, List.set_cons_zero, List.set_cons_succ]
          refine Ord.Till.take' 8 (some 52) (oi := _) (x := ?_) rfl rfl (by kernel_rfl) (by kernel_rfl) (by kernel_rfl) (by kernel_rfl) (fun _ _ _ h => h) (by kernel_rfl) ?_ hS0 ?_
          rotate_left 1
          · intro v hv; obtain ⟨z0, z1, z2, z3, z4, z5, z6⟩ := hv; go_simp; first | done | with_reducible rfl
          try simp only [Act.put, List.setIfInBounds_toArray, List.set_cons_zero, List.set_cons_succ]
          refine Ord.Till.step 6 (by kernel_rfl) rfl (fun C hC => ?_)
          go_simp
          go_at_call 86
          refine (Hm.out _).mono ?_
          rintro e w2' ⟨rfl, hb2⟩
          have hg1 : g < w1'.heap.size := (Array.getElem?_eq_some_iff.1 hrow).1
          have hrow2 := (hb2.block g hg1).trans hrow
          have hb2' : Below w1'.heap.size w1' w2' := (Below.refl _ _).drew.trans hb2
          have hfc2 := (cell_eq (o := o' + k) (hb2'.block b' hb')).trans hfc
          have hF2 := hF1.below hb2'
          have hT2 := hT1.below hb2'
          have hO2 := hO1.below hb2'
          have hb02 := hb1.trans (hb2'.mono hb1.size)
          have hb'2 : b' < w2'.heap.size := by have := hb2'.size; omega
          have hS2 : (fun W' => W'.cell? ⟨g, 0, none⟩ = some (.string x0) ∧ W'.cell? ⟨g, 1, none⟩ = some (.int .i64 x1) ∧ W'.cell? ⟨g, 2, none⟩ = some (.int .i64 x2) ∧ W'.cell? ⟨g, 3, none⟩ = some (.int .i64 x3) ∧ W'.cell? ⟨g, 4, none⟩ = some (.int .i64 x4) ∧ W'.cell? ⟨g, 5, none⟩ = some (.slice x5 x6 x7) ∧ W'.cell? ⟨b', o' + k, none⟩ = some (.string fk)) w2' := ⟨cell_of_row _ g 0 _ _ _ hrow2, cell_of_row _ g 1 _ _ _ hrow2, cell_of_row _ g 2 _ _ _ hrow2, cell_of_row _ g 3 _ _ _ hrow2, cell_of_row _ g 4 _ _ _ hrow2, cell_of_row _ g 5 _ _ _ hrow2, hfc2⟩
          go_wp2_with fail
          refine hC.out _ _ (fun _ => hS2) ?_
          clear hC C hS0 hF1 hT1 hO1 hb1 hb2 hb2' hrow hfc
          try simp only [List.getElem_toArray, List.getElem_cons_zero, List.getElem_cons_succ, Act.put, List.setIfInBounds_toArray, List.set_cons_zero, List.set_cons_succ]
          refine Ord.Till.step 9 (by kernel_rfl) rfl (fun C hC => ?_)
          go_simp
          refine hC.out _ _ (fun _ => hS2) ?_
          clear hC C
          try simp only [List.getElem_toArray, List.getElem_cons_zero, List.getElem_cons_succ, Act.put, List.setIfInBounds_toArray, List.set_cons_zero, List.set_cons_succ]
          have hrow3 := (Below.heap_alloc w2' (.cells #[.string fk, .int .i64 x1, .int .i64 x2, .int .i64 x3, .int .i64 x4, .int .i64 (x6 : Int), .slice x5 x6 x7] 147) g (Array.getElem?_eq_some_iff.1 hrow2).1).trans hrow2
          have hfc3 := (cell_eq (o := o' + k) (Below.heap_alloc w2' (.cells #[.string fk, .int .i64 x1, .int .i64 x2, .int .i64 x3, .int .i64 x4, .int .i64 (x6 : Int), .slice x5 x6 x7] 147) b' hb'2)).trans hfc2
          have hS3 : (fun W' => W'.cell? ⟨g, 0, none⟩ = some (.string x0) ∧ W'.cell? ⟨g, 1, none⟩ = some (.int .i64 x1) ∧ W'.cell? ⟨g, 2, none⟩ = some (.int .i64 x2) ∧ W'.cell? ⟨g, 3, none⟩ = some (.int .i64 x3) ∧ W'.cell? ⟨g, 4, none⟩ = some (.int .i64 x4) ∧ W'.cell? ⟨g, 5, none⟩ = some (.slice x5 x6 x7) ∧ W'.cell? ⟨b', o' + k, none⟩ = some (.string fk)) (w2'.alloc (.cells #[.string fk, .int .i64 x1, .int .i64 x2, .int .i64 x3, .int .i64 x4, .int .i64 (x6 : Int), .slice x5 x6 x7] 147)) := ⟨cell_of_row _ g 0 _ _ _ hrow3, cell_of_row _ g 1 _ _ _ hrow3, cell_of_row _ g 2 _ _ _ hrow3, cell_of_row _ g 3 _ _ _ hrow3, cell_of_row _ g 4 _ _ _ hrow3, cell_of_row _ g 5 _ _ _ hrow3, hfc3⟩
          have hF3 := hF2.alloc (.cells #[.string fk, .int .i64 x1, .int .i64 x2, .int .i64 x3, .int .i64 x4, .int .i64 (x6 : Int), .slice x5 x6 x7] 147)
          have hT3 := hT2.alloc (.cells #[.string fk, .int .i64 x1, .int .i64 x2, .int .i64 x3, .int .i64 x4, .int .i64 (x6 : Int), .slice x5 x6 x7] 147)
          have hO3 := hO2.alloc (.cells #[.string fk, .int .i64 x1, .int .i64 x2, .int .i64 x3, .int .i64 x4, .int .i64 (x6 : Int), .slice x5 x6 x7] 147)
          have hb03 := hb02.alloc hb02.size (.cells #[.string fk, .int .i64 x1, .int .i64 x2, .int .i64 x3, .int .i64 x4, .int .i64 (x6 : Int), .slice x5 x6 x7] 147)
          have hnew := heap_alloc_new w2' (.cells #[.string fk, .int .i64 x1, .int .i64 x2, .int .i64 x3, .int .i64 x4, .int .i64 (x6 : Int), .slice x5 x6 x7] 147)
          refine Ord.Till.step 10 (by kernel_rfl) rfl (fun C hC => ?_)
          go_simp
          refine hC.out _ _ (fun _ => hS3) ?_
          clear hC C hS2 hF2 hT2 hO2 hb02 hrow2 hfc2 hb'2
          try simp only [List.getElem_toArray, List.getElem_cons_zero, List.getElem_cons_succ, Act.put, List.setIfInBounds_toArray, List.set_cons_zero, List.set_cons_succ]
          refine Ord.Till.step 11 (by kernel_rfl) rfl (fun C hC => ?_)
          refine Cel.step_app kP _ w.heap.size (.slice A1 ((0 + 1) + k) c1) ((0 + 1) + k) (pcl (pre ++ (bodyP xs).take k)) hO3 hb03.size ⟨w2'.heap.size, 0, none⟩ 1 1 [.string fk, .int .i64 x1, .int .i64 x2, .int .i64 x3, .int .i64 x4, .int .i64 (x6 : Int), .slice x5 x6 x7] rfl (by simp [Value.oneCell']) (World.news_of_block (cs := #[.string fk, .int .i64 x1, .int .i64 x2, .int .i64 x3, .int .i64 x4, .int .i64 (x6 : Int), .slice x5 x6 x7]) (t := 147) (fr := (0, 0)) hnew) (by omega) (by omega) (by rfl) _ _ (by rfl) (by rfl) (by rfl) ?_
          intro v4 w4 ho4 hb4 hot4 _
          obtain ⟨A4, c4, rfl, _⟩ := ho4.reads
          have hrow4 := hot4 _ _ hrow3 (fun _ _ e => by simp at e)
          have hF4 := sown_oth hF3 hot4 (by decide)
          have hT4 := bown_oth hT3 hot4 (by decide)
          have hfc4 : w4.cell? ⟨b', o' + k, none⟩ = some (.string fk) := by
            obtain ⟨Af', cf', ef, hrd, _⟩ := hF4.reads
            injection ef with ef1 _ ef3
            subst ef1 ef3
            obtain ⟨b'', o'', ef4, _, hfc'⟩ := hrd.2 k (by rw [hrd.1]; omega)
            cases ef4
            have hfe : (fo (nms xs))[k]'(by rw [hrd.1]; omega) = fk := by
              have := HFk.out
              rw [List.getElem?_eq_getElem (by rw [hrd.1]; omega)] at this
              injection this
            rw [hfe] at hfc'
            exact hfc'
          have hS4 : (fun W' => W'.cell? ⟨g, 0, none⟩ = some (.string x0) ∧ W'.cell? ⟨g, 1, none⟩ = some (.int .i64 x1) ∧ W'.cell? ⟨g, 2, none⟩ = some (.int .i64 x2) ∧ W'.cell? ⟨g, 3, none⟩ = some (.int .i64 x3) ∧ W'.cell? ⟨g, 4, none⟩ = some (.int .i64 x4) ∧ W'.cell? ⟨g, 5, none⟩ = some (.slice x5 x6 x7) ∧ W'.cell? ⟨b', o' + k, none⟩ = some (.string fk)) w4 := ⟨cell_of_row _ g 0 _ _ _ hrow4, cell_of_row _ g 1 _ _ _ hrow4, cell_of_row _ g 2 _ _ _ hrow4, cell_of_row _ g 3 _ _ _ hrow4, cell_of_row _ g 4 _ _ _ hrow4, cell_of_row _ g 5 _ _ _ hrow4, hfc4⟩
          have hb04 := hb03.trans hb4
          refine hC.out _ _ (fun _ => hS4) ?_
          clear hC C hS3 hF3 hT3 hO3 hb03 hrow3 hfc3 hnew hot4 hb4
          try simp only [List.getElem_toArray, List.getElem_cons_zero, List.getElem_cons_succ, Act.put, List.setIfInBounds_toArray, List.set_cons_zero, List.set_cons_succ]
          refine Ord.Till.step 12 (by kernel_rfl) rfl (fun C hC => ?_)
          go_simp
          refine hC.out _ _ (fun _ => hS4) ?_
          clear hC C
          try simp only [List.getElem_toArray, List.getElem_cons_zero, List.getElem_cons_succ, Act.put, List.setIfInBounds_toArray, List.set_cons_zero, List.set_cons_succ]
          refine Ord.Till.done (by kernel_rfl) ?_ _
          clear hS4 hrow4 hfc4
          rw [← HT.out, Nat.add_assoc] at ho4
          go_wp2_with fail
          go_roundw
          all_goals first
            | exact ⟨k + 1, A4, c4, by go_num, by rw [Nat.add_assoc], by omega, ho4, hF4, hT4, hb04⟩
            | (simp [intOf]; omega)
        · obtain rfl : k = n := by omega
          have hTk : (bodyP xs).take k = bodyP xs := List.take_of_length_le (by rw [bodyP_length Hfit.out]; have := Hl.out; omega)
          rw [hTk] at hO
          go_wp2_with fail
          go_ret
          exact Parts.fin HTn.out HPre.out hO hT hb
    · have hti : (0 : Int) < (tn : Int) := by omega
      obtain ⟨pre, hpre⟩ : ∃ pre, mapP true mA mn mc md ++ tabP At tn ct (bo (nms xs)) = pre := ⟨_, rfl⟩
      have HPre := hid hpre
      go_wp2_with (at_builtin; go_must (refine Cel.wpList_push kP w2 w.heap.size _ (0 + 1) _ oP0 hb02.size 1 1 #[.string ⟨#[47, 47]⟩, .int .i64 0, .int .i64 0, .int .i64 0, .int .i64 0, .int .i64 (tn : Int), .slice At tn ct] (0, 0) rfl (by simp [Value.oneCell']) (by omega) (by omega) rfl (.tmp 29) (.tmp 35) rfl rfl rfl ?_); intro v3 w3 oP hb3 hot3 _; obtain ⟨A3, c3, rfl, _⟩ := oP.reads; have oF3 := sown_oth oF hot3 (by decide); have oT3 := bown_oth oT hot3 (by decide); have hbq := hb02.trans hb3; clear oP0 hb02 hot3 hb3 oF oT; have oF := oF3; have oT := oT3; clear oF3 oT3)
      go_loopw [39, 7] (fun i v W => ∃ (k : Nat) (A1 : Option Addr) (c1 : Nat), i = .int .i64 (k : Int) ∧ v = .slice A1 (((0 + 1) + 1) + k) c1 ∧ k ≤ n ∧ Cel.Own 147 7 W w.heap.size (.slice A1 (((0 + 1) + 1) + k) c1) (((0 + 1) + 1) + k) (pcl (pre ++ (bodyP xs).take k)) ∧ Sls.Own W w.heap.size (.slice Af n cf) n (fo (nms xs)) ∧ Byt.Own W w.heap.size (.slice At tn ct) tn (bo (nms xs)) ∧ Below w.heap.size w W) (fun i _ _ => n - (intOf i).toNat)
      case atStart => exact ⟨0, A3, c3, rfl, rfl, by omega, by rw [← hpre]; simpa [tabP, ht0, pcl_append, pcl, tpt] using oP, oF, oT, hbq⟩
      case round =>
        obtain ⟨k, A1, c1, rfl, rfl, hk, hO, hF, hT, hb⟩ := hrel
        by_cases hlt : k < n
        · have hkl : k < xs.length := by have := Hl.out; omega
          have hki : (k : Int) < (n : Int) := by omega
          obtain ⟨⟨b, o, rfl, hbK, hcell⟩, _, _⟩ := (h.below (hb.mono hK)).2 k hkl
          have HB := hid (bodyP_at Hfit.out hkl)
          have HBl := hid (bodyP_length Hfit.out)
          obtain ⟨fk, hfk⟩ : ∃ fk, fld ((nms xs).take k) xs[k].name = fk := ⟨_, rfl⟩
          have HT : Hid (pcl (pre ++ (bodyP xs).take (k + 1)) = pcl (pre ++ (bodyP xs).take k) ++ [.string fk, .int .i64 xs[k].time, .int .i64 xs[k].uid, .int .i64 xs[k].gid, .int .i64 xs[k].mode, .int .i64 (xs[k].len : Int), .slice xs[k].ptr xs[k].len xs[k].cap]) := hid (by
            rw [List.take_succ_eq_append_getElem (by rw [HBl.out]; exact hkl), HB.out, hfk, ← List.append_assoc, pcl_append (pre ++ _)]
            rfl)
          have HFk : Hid ((fo (nms xs))[k]? = some fk) := hid (by rw [← hfk]; exact fo_at Hfit.out hkl)
          have hF1 := hF.alloc (.cells #[.string xs[k].name, .int .i64 xs[k].time, .int .i64 xs[k].uid, .int .i64 xs[k].gid, .int .i64 xs[k].mode, .slice xs[k].ptr xs[k].len xs[k].cap] 49)
          have hT1 := hT.alloc (.cells #[.string xs[k].name, .int .i64 xs[k].time, .int .i64 xs[k].uid, .int .i64 xs[k].gid, .int .i64 xs[k].mode, .slice xs[k].ptr xs[k].len xs[k].cap] 49)
          have hO1 := hO.alloc (.cells #[.string xs[k].name, .int .i64 xs[k].time, .int .i64 xs[k].uid, .int .i64 xs[k].gid, .int .i64 xs[k].mode, .slice xs[k].ptr xs[k].len xs[k].cap] 49)
          have hb1 := hb.alloc hb.size (.cells #[.string xs[k].name, .int .i64 xs[k].time, .int .i64 xs[k].uid, .int .i64 xs[k].gid, .int .i64 xs[k].mode, .slice xs[k].ptr xs[k].len xs[k].cap] 49)
          have hrow := heap_alloc_new wr (.cells #[.string xs[k].name, .int .i64 xs[k].time, .int .i64 xs[k].uid, .int .i64 xs[k].gid, .int .i64 xs[k].mode, .slice xs[k].ptr xs[k].len xs[k].cap] 49)
          clear hfk HB HBl hO hF hT hb
          generalize xs[k] = x at *
          have Hm := hid fun W => memberHeader_any fk x W
          obtain ⟨x0, x1, x2, x3, x4, x5, x6, x7, x8⟩ := x
          obtain ⟨p0, p1, p2, p3, p4, p5⟩ := hcell
          simp only [Mem.val] at *
          go_upto_region 10 with fail
          generalize wr.alloc (.cells #[.string x0, .int .i64 x1, .int .i64 x2, .int .i64 x3, .int .i64 x4, .slice x5 x6 x7] 49) = w1' at *
          generalize wr.heap.size = g at *
          obtain ⟨Af', cf', ef, hrd, _, hcf⟩ := hF1.reads
          injection ef with ef1 _ ef3
          subst ef1 ef3
          obtain ⟨b', o', ef4, hb', hfc⟩ := hrd.2 k (by rw [hrd.1]; omega)
          have hfe : (fo (nms xs))[k]'(by rw [hrd.1]; omega) = fk := by
            have := HFk.out
            rw [List.getElem?_eq_getElem (by rw [hrd.1]; omega)] at this
            injection this
          rw [hfe] at hfc
          subst ef4
          clear hrd hfe
          refine Ord.Till.begin (fun W' => W'.cell? ⟨g, 0, none⟩ = some (.string x0) ∧ W'.cell? ⟨g, 1, none⟩ = some (.int .i64 x1) ∧ W'.cell? ⟨g, 2, none⟩ = some (.int .i64 x2) ∧ W'.cell? ⟨g, 3, none⟩ = some (.int .i64 x3) ∧ W'.cell? ⟨g, 4, none⟩ = some (.int .i64 x4) ∧ W'.cell? ⟨g, 5, none⟩ = some (.slice x5 x6 x7) ∧ W'.cell? ⟨b', o' + k, none⟩ = some (.string fk)) 60 (by kernel_rfl) ?_
          have hS0 : (fun W' => W'.cell? ⟨g, 0, none⟩ = some (.string x0) ∧ W'.cell? ⟨g, 1, none⟩ = some (.int .i64 x1) ∧ W'.cell? ⟨g, 2, none⟩ = some (.int .i64 x2) ∧ W'.cell? ⟨g, 3, none⟩ = some (.int .i64 x3) ∧ W'.cell? ⟨g, 4, none⟩ = some (.int .i64 x4) ∧ W'.cell? ⟨g, 5, none⟩ = some (.slice x5 x6 x7) ∧ W'.cell? ⟨b', o' + k, none⟩ = some (.string fk)) w1'.drew := ⟨cell_of_row _ g 0 _ _ _ hrow, cell_of_row _ g 1 _ _ _ hrow, cell_of_row _ g 2 _ _ _ hrow, cell_of_row _ g 3 _ _ _ hrow, cell_of_row _ g 4 _ _ _ hrow, cell_of_row _ g 5 _ _ _ hrow, hfc⟩
          refine Ord.Till.take' 0 (some 44) (oi := _) (x := ?_) rfl rfl (by kernel_rfl) (by kernel_rfl) (by kernel_rfl) (by kernel_rfl) (fun _ _ _ h => h) (by kernel_rfl) ?_ hS0 ?_
          rotate_left 1
          · intro v hv; obtain ⟨z0, z1, z2, z3, z4, z5, z6⟩ := hv; go_simp; first | done | with_reducible rfl
          try simp only [Act.put, List.setIfInBounds_toArray, List.set_cons_zero, List.set_cons_succ]
          refine Ord.Till.take' 1 (some 45) (oi := _) (x := ?_) rfl rfl (by kernel_rfl) (by kernel_rfl) (by kernel_rfl) (by kernel_rfl) (fun _ _ _ h => h) (by kernel_rfl) ?_ hS0 ?_
          rotate_left 1
          · intro v hv; obtain ⟨z0, z1, z2, z3, z4, z5, z6⟩ := hv; go_simp; first | done | with_reducible rfl
          try simp only [Act.put, List.setIfInBounds_toArray, List.set_cons_zero, List.set_cons_succ]
          refine Ord.Till.take' 2 (some 46) (oi := _) (x := ?_) rfl rfl (by kernel_rfl) (by kernel_rfl) (by kernel_rfl) (by kernel_rfl) (fun _ _ _ h => h) (by kernel_rfl) ?_ hS0 ?_
          rotate_left 1
          · intro v hv; obtain ⟨z0, z1, z2, z3, z4, z5, z6⟩ := hv; go_simp; first | done | with_reducible rfl
          try simp only [Act.put, List.setIfInBounds_toArray, List.set_cons_zero, List.set_cons_succ]
          refine Ord.Till.take' 3 (some 47) (oi := _) (x := ?_) rfl rfl (by kernel_rfl) (by kernel_rfl) (by kernel_rfl) (by kernel_rfl) (fun _ _ _ h => h) (by kernel_rfl) ?_ hS0 ?_
          rotate_left 1
          · intro v hv; obtain ⟨z0, z1, z2, z3, z4, z5, z6⟩ := hv; go_simp; first | done | with_reducible rfl
          try simp only [Act.put, List.setIfInBounds_toArray, List.set_cons_zero, List.set_cons_succ]
          refine Ord.Till.take' 4 (some 48) (oi := _) (x := ?_) rfl rfl (by kernel_rfl) (by kernel_rfl) (by kernel_rfl) (by kernel_rfl) (fun _ _ _ h => h) (by kernel_rfl) ?_ hS0 ?_
          rotate_left 1
          · intro v hv; obtain ⟨z0, z1, z2, z3, z4, z5, z6⟩ := hv; go_simp; first | done | with_reducible rfl
          try simp only [Act.put, List.setIfInBounds_toArray, List.set_cons_zero, List.set_cons_succ]
          refine Ord.Till.take' 5 (some 49) (oi := _) (x := ?_) rfl rfl (by kernel_rfl) (by kernel_rfl) (by kernel_rfl) (by kernel_rfl) (fun _ _ _ h => h) (by kernel_rfl) ?_ hS0 ?_
          rotate_left 1
          · intro v hv; obtain ⟨z0, z1, z2, z3, z4, z5, z6⟩ := hv; go_simp; first | done | with_reducible rfl
          try simp only [Act.put, List.setIfInBounds_toArray, List.set_cons_zero, List.set_cons_succ]
          refine Ord.Till.take' 7 (some 51) (oi := _) (x := ?_) rfl rfl (by kernel_rfl) (by kernel_rfl) (by kernel_rfl) (by kernel_rfl) (fun _ _ _ h => h) (by kernel_rfl) ?_ hS0 ?_
          rotate_left 1
          · intro v hv; obtain ⟨z0, z1, z2, z3, z4, z5, z6⟩ := hv; go_simp; first | done | with_reducible rfl
          try simp only [Act.put, List.setIfInBounds_toArray, List.set_cons_zero, List.set_cons_succ]
          refine Ord.Till.take' 8 (some 52) (oi := _) (x := ?_) rfl rfl (by kernel_rfl) (by kernel_rfl) (by kernel_rfl) (by kernel_rfl) (fun _ _ _ h => h) (by kernel_rfl) ?_ hS0 ?_
          rotate_left 1
          · intro v hv; obtain ⟨z0, z1, z2, z3, z4, z5, z6⟩ := hv; go_simp; first | done | with_reducible rfl
          try simp only [Act.put, List.setIfInBounds_toArray, List.set_cons_zero, List.set_cons_succ]
          refine Ord.Till.step 6 (by kernel_rfl) rfl (fun C hC => ?_)
          go_simp
          go_at_call 86
          refine (Hm.out _).mono ?_
          rintro e w2' ⟨rfl, hb2⟩
          have hg1 : g < w1'.heap.size := (Array.getElem?_eq_some_iff.1 hrow).1
          have hrow2 := (hb2.block g hg1).trans hrow
          have hb2' : Below w1'.heap.size w1' w2' := (Below.refl _ _).drew.trans hb2
          have hfc2 := (cell_eq (o := o' + k) (hb2'.block b' hb')).trans hfc
          have hF2 := hF1.below hb2'
          have hT2 := hT1.below hb2'
          have hO2 := hO1.below hb2'
          have hb02 := hb1.trans (hb2'.mono hb1.size)
          have hb'2 : b' < w2'.heap.size := by have := hb2'.size; omega
          have hS2 : (fun W' => W'.cell? ⟨g, 0, none⟩ = some (.string x0) ∧ W'.cell? ⟨g, 1, none⟩ = some (.int .i64 x1) ∧ W'.cell? ⟨g, 2, none⟩ = some (.int .i64 x2) ∧ W'.cell? ⟨g, 3, none⟩ = some (.int .i64 x3) ∧ W'.cell? ⟨g, 4, none⟩ = some (.int .i64 x4) ∧ W'.cell? ⟨g, 5, none⟩ = some (.slice x5 x6 x7) ∧ W'.cell? ⟨b', o' + k, none⟩ = some (.string fk)) w2' := ⟨cell_of_row _ g 0 _ _ _ hrow2, cell_of_row _ g 1 _ _ _ hrow2, cell_of_row _ g 2 _ _ _ hrow2, cell_of_row _ g 3 _ _ _ hrow2, cell_of_row _ g 4 _ _ _ hrow2, cell_of_row _ g 5 _ _ _ hrow2, hfc2⟩
          go_wp2_with fail
          refine hC.out _ _ (fun _ => hS2) ?_
          clear hC C hS0 hF1 hT1 hO1 hb1 hb2 hb2' hrow hfc
          try simp only [List.getElem_toArray, List.getElem_cons_zero, List.getElem_cons_succ, Act.put, List.setIfInBounds_toArray, List.set_cons_zero, List.set_cons_succ]
          refine Ord.Till.step 9 (by kernel_rfl) rfl (fun C hC => ?_)
          go_simp
          refine hC.out _ _ (fun _ => hS2) ?_
          clear hC C
          try simp only [List.getElem_toArray, List.getElem_cons_zero, List.getElem_cons_succ, Act.put, List.setIfInBounds_toArray, List.set_cons_zero, List.set_cons_succ]
          have hrow3 := (Below.heap_alloc w2' (.cells #[.string fk, .int .i64 x1, .int .i64 x2, .int .i64 x3, .int .i64 x4, .int .i64 (x6 : Int), .slice x5 x6 x7] 147) g (Array.getElem?_eq_some_iff.1 hrow2).1).trans hrow2
          have hfc3 := (cell_eq (o := o' + k) (Below.heap_alloc w2' (.cells #[.string fk, .int .i64 x1, .int .i64 x2, .int .i64 x3, .int .i64 x4, .int .i64 (x6 : Int), .slice x5 x6 x7] 147) b' hb'2)).trans hfc2
          have hS3 : (fun W' => W'.cell? ⟨g, 0, none⟩ = some (.string x0) ∧ W'.cell? ⟨g, 1, none⟩ = some (.int .i64 x1) ∧ W'.cell? ⟨g, 2, none⟩ = some (.int .i64 x2) ∧ W'.cell? ⟨g, 3, none⟩ = some (.int .i64 x3) ∧ W'.cell? ⟨g, 4, none⟩ = some (.int .i64 x4) ∧ W'.cell? ⟨g, 5, none⟩ = some (.slice x5 x6 x7) ∧ W'.cell? ⟨b', o' + k, none⟩ = some (.string fk)) (w2'.alloc (.cells #[.string fk, .int .i64 x1, .int .i64 x2, .int .i64 x3, .int .i64 x4, .int .i64 (x6 : Int), .slice x5 x6 x7] 147)) := ⟨cell_of_row _ g 0 _ _ _ hrow3, cell_of_row _ g 1 _ _ _ hrow3, cell_of_row _ g 2 _ _ _ hrow3, cell_of_row _ g 3 _ _ _ hrow3, cell_of_row _ g 4 _ _ _ hrow3, cell_of_row _ g 5 _ _ _ hrow3, hfc3⟩
          have hF3 := hF2.alloc (.cells #[.string fk, .int .i64 x1, .int .i64 x2, .int .i64 x3, .int .i64 x4, .int .i64 (x6 : Int), .slice x5 x6 x7] 147)
          have hT3 := hT2.alloc (.cells #[.string fk, .int .i64 x1, .int .i64 x2, .int .i64 x3, .int .i64 x4, .int .i64 (x6 : Int), .slice x5 x6 x7] 147)
          have hO3 := hO2.alloc (.cells #[.string fk, .int .i64 x1, .int .i64 x2, .int .i64 x3, .int .i64 x4, .int .i64 (x6 : Int), .slice x5 x6 x7] 147)
          have hb03 := hb02.alloc hb02.size (.cells #[.string fk, .int .i64 x1, .int .i64 x2, .int .i64 x3, .int .i64 x4, .int .i64 (x6 : Int), .slice x5 x6 x7] 147)
          have hnew := heap_alloc_new w2' (.cells #[.string fk, .int .i64 x1, .int .i64 x2, .int .i64 x3, .int .i64 x4, .int .i64 (x6 : Int), .slice x5 x6 x7] 147)
          refine Ord.Till.step 10 (by kernel_rfl) rfl (fun C hC => ?_)
          go_simp
          refine hC.out _ _ (fun _ => hS3) ?_
          clear hC C hS2 hF2 hT2 hO2 hb02 hrow2 hfc2 hb'2
          try simp only [List.getElem_toArray, List.getElem_cons_zero, List.getElem_cons_succ, Act.put, List.setIfInBounds_toArray, List.set_cons_zero, List.set_cons_succ]
          refine Ord.Till.step 11 (by kernel_rfl) rfl (fun C hC => ?_)
          refine Cel.step_app kP _ w.heap.size (.slice A1 (((0 + 1) + 1) + k) c1) (((0 + 1) + 1) + k) (pcl (pre ++ (bodyP xs).take k)) hO3 hb03.size ⟨w2'.heap.size, 0, none⟩ 1 1 [.string fk, .int .i64 x1, .int .i64 x2, .int .i64 x3, .int .i64 x4, .int .i64 (x6 : Int), .slice x5 x6 x7] rfl (by simp [Value.oneCell']) (World.news_of_block (cs := #[.string fk, .int .i64 x1, .int .i64 x2, .int .i64 x3, .int .i64 x4, .int .i64 (x6 : Int), .slice x5 x6 x7]) (t := 147) (fr := (0, 0)) hnew) (by omega) (by omega) (by rfl) _ _ (by rfl) (by rfl) (by rfl) ?_
          intro v4 w4 ho4 hb4 hot4 _
          obtain ⟨A4, c4, rfl, _⟩ := ho4.reads
          have hrow4 := hot4 _ _ hrow3 (fun _ _ e => by simp at e)
          have hF4 := sown_oth hF3 hot4 (by decide)
          have hT4 := bown_oth hT3 hot4 (by decide)
          have hfc4 : w4.cell? ⟨b', o' + k, none⟩ = some (.string fk) := by
            obtain ⟨Af', cf', ef, hrd, _⟩ := hF4.reads
            injection ef with ef1 _ ef3
            subst ef1 ef3
            obtain ⟨b'', o'', ef4, _, hfc'⟩ := hrd.2 k (by rw [hrd.1]; omega)
            cases ef4
            have hfe : (fo (nms xs))[k]'(by rw [hrd.1]; omega) = fk := by
              have := HFk.out
              rw [List.getElem?_eq_getElem (by rw [hrd.1]; omega)] at this
              injection this
            rw [hfe] at hfc'
            exact hfc'
          have hS4 : (fun W' => W'.cell? ⟨g, 0, none⟩ = some (.string x0) ∧ W'.cell? ⟨g, 1, none⟩ = some (.int .i64 x1) ∧ W'.cell? ⟨g, 2, none⟩ = some (.int .i64 x2) ∧ W'.cell? ⟨g, 3, none⟩ = some (.int .i64 x3) ∧ W'.cell? ⟨g, 4, none⟩ = some (.int .i64 x4) ∧ W'.cell? ⟨g, 5, none⟩ = some (.slice x5 x6 x7) ∧ W'.cell? ⟨b', o' + k, none⟩ = some (.string fk)) w4 := ⟨cell_of_row _ g 0 _ _ _ hrow4, cell_of_row _ g 1 _ _ _ hrow4, cell_of_row _ g 2 _ _ _ hrow4, cell_of_row _ g 3 _ _ _ hrow4, cell_of_row _ g 4 _ _ _ hrow4, cell_of_row _ g 5 _ _ _ hrow4, hfc4⟩
          have hb04 := hb03.trans hb4
          refine hC.out _ _ (fun _ => hS4) ?_
          clear hC C hS3 hF3 hT3 hO3 hb03 hrow3 hfc3 hnew hot4 hb4
          try simp only [List.getElem_toArray, List.getElem_cons_zero, List.getElem_cons_succ, Act.put, List.setIfInBounds_toArray, List.set_cons_zero, List.set_cons_succ]
          refine Ord.Till.step 12 (by kernel_rfl) rfl (fun C hC => ?_)
          go_simp
          refine hC.out _ _ (fun _ => hS4) ?_
          clear hC C
          try simp only [List.getElem_toArray, List.getElem_cons_zero, List.getElem_cons_succ, Act.put, List.setIfInBounds_toArray, List.set_cons_zero, List.set_cons_succ]
          refine Ord.Till.done (by kernel_rfl) ?_ _
          clear hS4 hrow4 hfc4
          rw [← HT.out, Nat.add_assoc] at ho4
          go_wp2_with fail
          go_roundw
          all_goals first
            | exact ⟨k + 1, A4, c4, by go_num, by rw [Nat.add_assoc], by omega, ho4, hF4, hT4, hb04⟩
            | (simp [intOf]; omega)
        · obtain rfl : k = n := by omega
          have hTk : (bodyP xs).take k = bodyP xs := List.take_of_length_le (by rw [bodyP_length Hfit.out]; have := Hl.out; omega)
          rw [hTk] at hO
          go_wp2_with fail
          go_ret
          exact Parts.fin HTn.out HPre.out hO hT hb
end Go.Proofs.YtpedngfmjhpojaaGreatDoor.Arw
