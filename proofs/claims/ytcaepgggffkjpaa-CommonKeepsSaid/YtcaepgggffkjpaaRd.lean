/-
  common: the reference's Layout.
-/
import Derived.Test.YtcaepgggffkjpaaRc
import Derived.Deep.CutRange
namespace Go.Proofs.Ytcaepgggffkjpaa.Cmn
open Go.RowKit Go.Proofs Go.Proofs.Ytcaepgggffkjpaa.Byt
open Go.Proofs.Ytcaepgggffkjpaa.Tab (bl bl_iff bl_irrefl bl_trans bl_total tl_inj)
open Go.Proofs.Ytcaepgggffkjpaa.Bnd (Us)
open Go.Proofs.Ytcaepgggffkjpaa.Obj (pow2 pows)

theorem ins_eq : ∀ (L : List Us) (x : Us) (k : Nat), k ≤ L.length → (∀ j (h : j < L.length), j < k → bef L[j] x = true) → (∀ h : k < L.length, bef L[k] x = false) → ins L x = L.take k ++ x :: L.drop k
  | [], x, k, hk, _, _ => by
    obtain rfl : k = 0 := by simpa using hk
    rfl
  | y :: L, x, 0, _, _, h => by
    have h0 := h (by simp)
    unfold ins
    rw [if_neg (by rw [show bef y x = false from h0]; decide)]
    rfl
  | y :: L, x, k + 1, hk, h1, h2 => by
    have h0 : bef y x = true := h1 0 (by simp) (by omega)
    unfold ins
    rw [if_pos h0, ins_eq L x k (by simpa using hk) (fun j hj hjk => h1 (j + 1) (by simpa using hj) (by omega)) (fun h => h2 (by simpa using h))]
    rfl
/-- The common ones among the first i, in their order. -/
def srtK (xs : List Us) (i : Nat) : List Us := srt (xs.take i)
theorem srtK_zero (xs : List Us) : srtK xs 0 = [] := rfl
theorem srtK_step {xs : List Us} {i : Nat} (h : i < xs.length) : srtK xs (i + 1) = if com xs[i] = true then ins (srtK xs i) xs[i] else srtK xs i := by
  unfold srtK srt
  rw [List.take_succ_eq_append_getElem h, List.filter_append]
  split
  · rename_i hc
    simp [hc]
  · rename_i hc
    simp [hc]
theorem srtK_len (xs : List Us) (i : Nat) : (srtK xs i).length ≤ i := by
  unfold srtK
  rw [(srt_perm _).length_eq]
  have h1 := List.length_filter_le com (xs.take i)
  rw [List.length_take] at h1
  omega
/-- The tail of a slice of resolutions. -/
theorem rd_tailR {w : World} {K n k c : Nat} {b o : Nat} {L : List Us} (h : RdR w K (some ⟨b, o, none⟩) n L) (hk : k ≤ n) (hn : n ≤ c) : Cel.Rd w K (if c = k then some ⟨b, o, none⟩ else some ⟨b, o + k * 5, none⟩) (n - k) 5 (rcells (L.drop k)) := by
  have hl : ∀ L : List Us, (rcells L).length = L.length * 5 := flat_len rcell_len
  refine ⟨by rw [hl, List.length_drop, h.1], fun j hj => ?_⟩
  rw [hl, List.length_drop, h.1] at hj
  rw [if_neg (by omega)]
  have hj2 : k * 5 + j < (rcells L).length := by rw [hl, h.1]; omega
  obtain ⟨b', o', e, hb, hc⟩ := h.2.2 (k * 5 + j) hj2
  injection e with e
  injection e with e1 e2
  subst e1 e2
  refine ⟨b, o + k * 5, rfl, hb, ?_⟩
  rw [Nat.add_assoc, hc, ← List.getElem?_eq_getElem hj2]
  have e3 : rcells L = rcells (L.take k) ++ rcells (L.drop k) := by rw [← rcells_app, List.take_append_drop]
  have e4 : (rcells (L.take k)).length = k * 5 := by rw [hl, List.length_take, h.1, Nat.min_eq_left hk]
  rw [e3, List.getElem?_append_right (by rw [e4]; omega), e4, Nat.add_sub_cancel_left, List.getElem?_eq_getElem]

/-- What the reference's Layout gives. -/
def RLay (xs : List Us) (w : World) (e : Ending) (w' : World) : Prop :=
  ∃ A c, e = .returned (.tuple #[.slice A (layL xs).out.length c, .int .i64 (layL xs).fin, .int .i64 (layL xs).al]) ∧ OwT 35 w' w.heap.size (.slice A (layL xs).out.length c) (layL xs).out ∧ Below w.heap.size w w'
set_option linter.unusedSimpArgs false in
set_option maxRecDepth 100000 in
set_option maxHeartbeats 8000000 in
theorem rlayout_any (K : Nat) (A : Option Addr) (n c : Nat) (xs : List Us) (w : World) (h : RdR w K A n xs) (hK : K ≤ w.heap.size) (hg : RightR xs) :
    Calls Try.prog 11 #[.slice A n c] w (RLay xs w) := by
  have HR := hid h
  have Hl : xs.length = n := h.1
  have HG := hid hg
  have hn : n ≤ 100 := Hl ▸ hg.len
  clear h hg
  go_enter Try.func11, Try.ntmps11
  go_wp2_with fail
  go_loopw [5, 6] (fun v iv W => ∃ (i m c5 : Nat) (A5 : Option Addr), v = .slice A5 m c5 ∧ iv = .int .i64 (i : Int) ∧ i ≤ n ∧ m ≤ i ∧ Hid (m = (srtK xs i).length ∧ Cel.Own 40 5 W w.heap.size (.slice A5 m c5) m (rcells (srtK xs i))) ∧ Below w.heap.size w W) (fun _ iv _ => n - (intOf iv).toNat)
  case atStart => exact ⟨0, 0, 0, none, rfl, rfl, Nat.zero_le _, Nat.le_refl _, hid ⟨rfl, Cel.Own.nil _ _ _ _⟩, Below.refl _ _⟩
  case round =>
    obtain ⟨i, m, c5, A5, rfl, rfl, hi, hmi, hO, hb⟩ := hrel
    have hbs := hb.size
    by_cases hlt : i < n
    · have hil : i < xs.length := by omega
      have hii : (i : Int) < (n : Int) := by omega
      obtain ⟨b, o, rfl, _, p0, p1, p2, p3, p4⟩ := (HR.out.below (hb.mono hK)).at_ hil
      have HCx := hid fun (V : World) (hV : Below w.heap.size w V) => (by obtain ⟨b', o', e, _, q⟩ := (HR.out.below (hV.mono hK)).at_ hil; injection e with e; injection e with e1 e2; subst e1 e2; exact q : V.cell? ⟨b, o + i * 5, none⟩ = some (.string xs[i].s.name) ∧ V.cell? ⟨b, o + i * 5 + 1, none⟩ = some (.int .i64 xs[i].s.bind) ∧ V.cell? ⟨b, o + i * 5 + 2, none⟩ = some (.int .i64 xs[i].s.size) ∧ V.cell? ⟨b, o + i * 5 + 3, none⟩ = some (.int .i64 xs[i].s.align) ∧ V.cell? ⟨b, o + i * 5 + 4, none⟩ = some (.int .i64 xs[i].u))
      have HS1 := hid (srtK_step hil)
      clear p0 p2 p3 p4
      generalize xs[i] = x at *
      obtain ⟨⟨x0, x1, x2, x3⟩, x4⟩ := x
      simp only at p1 HCx
      by_cases hbd : x1 = 3
      · subst hbd
        have HS2 : Hid (srtK xs (i + 1) = ins (srtK xs i) ⟨⟨x0, 3, x2, x3⟩, x4⟩) := hid (by rw [HS1.out]; exact if_pos rfl)
        clear HS1
        generalize hLe : srtK xs i = L at *
        have hml := hO.out.1
        subst hml
        have hOw : OwR wr w.heap.size (.slice A5 L.length c5) L := hO.out.2
        obtain ⟨A5', c5', e5, hRL, hmc, _⟩ := hOw.reads
        injection e5 with e51 _ e53
        subst e51 e53
        have HRL := hid hRL
        clear hLe hO hRL
        have HC := hid fun (V : World) (hV : Below wr.heap.size wr V) => HCx.out V (hb.trans (hV.mono hbs))
        have HBf := hid fun (y : Us) (V : World) => rbefore_any y ⟨⟨x0, 3, x2, x3⟩, x4⟩ V
        unfold rval at HBf
        have HOw := hid hOw
        clear hOw
        generalize wr = w0 at *
        go_wp2_with fail
        go_loopw [7, 8] (fun v kv W => ∃ (k c7 : Nat) (A7 : Option Addr), v = .slice A7 k c7 ∧ kv = .int .i64 (k : Int) ∧ k ≤ L.length ∧ Hid (∀ j (h : j < L.length), j < k → bef L[j] ⟨⟨x0, 3, x2, x3⟩, x4⟩ = true) ∧ Hid (Cel.Own 40 5 W w0.heap.size (.slice A7 k c7) k (rcells (L.take k))) ∧ Below w0.heap.size w0 W) (fun _ kv _ => L.length - (intOf kv).toNat)
        case atStart => exact ⟨0, 0, none, rfl, rfl, Nat.zero_le _, hid (fun j _ hj => absurd hj (Nat.not_lt_zero _)), hid (Cel.Own.nil _ _ _ _), Below.refl _ _⟩
        case round =>
          obtain ⟨k, c7, A7, rfl, rfl, hk, hP, hO7, hb7⟩ := hrel
          have hb7s := hb7.size
          obtain ⟨bb, hbb⟩ : ∃ bb : Bool, ∀ h : k < L.length, bb = bef L[k] ⟨⟨x0, 3, x2, x3⟩, x4⟩ := by
            by_cases h : k < L.length
            · exact ⟨bef L[k] ⟨⟨x0, 3, x2, x3⟩, x4⟩, fun _ => rfl⟩
            · exact ⟨false, fun h' => absurd h' h⟩
          have HBB := hid hbb
          clear hbb
          go_upto_region 8 with fail
          go_cut [40] from 26 to 40 (fun s40 V => s40 = .bool (decide (k < L.length) && bb) ∧ Below wr.heap.size wr V)
          case first =>
            refine Ord.Till.begin (fun V => Below wr.heap.size wr V) 60 (by kernel_rfl) ?_
            have hS : (fun V : World => Below wr.heap.size wr V) wr.drew := (Below.refl _ _).drew
            have HS := hid fun (V : World) (hV : Below wr.heap.size wr V) => hb7.trans (hV.mono hb7s)
            by_cases hkl : k < L.length
            · have hki : (k : Int) < (L.length : Int) := by omega
              obtain ⟨b5, o5, rfl, _, _⟩ := HRL.out.at_ hkl
              have HLc := hid fun (V : World) (hV : Below w0.heap.size w0 V) => (by obtain ⟨b', o', e, _, q⟩ := (HRL.out.below hV).at_ hkl; injection e with e; injection e with e1 e2; subst e1 e2; exact q : V.cell? ⟨b5, o5 + k * 5, none⟩ = some (.string L[k].s.name) ∧ V.cell? ⟨b5, o5 + k * 5 + 1, none⟩ = some (.int .i64 L[k].s.bind) ∧ V.cell? ⟨b5, o5 + k * 5 + 2, none⟩ = some (.int .i64 L[k].s.size) ∧ V.cell? ⟨b5, o5 + k * 5 + 3, none⟩ = some (.int .i64 L[k].s.align) ∧ V.cell? ⟨b5, o5 + k * 5 + 4, none⟩ = some (.int .i64 L[k].u))
              have hb1 := HBB.out hkl
              subst hb1
              generalize L[k] = y at *
              obtain ⟨⟨y0, y1, y2, y3⟩, y4⟩ := y
              simp only at HLc
              have hdk : decide (k < L.length) = true := decide_eq_true hkl
              refine Ord.Till.take' 0 (some 26) (oi := _) (x := ?_) rfl rfl (by kernel_rfl) (by kernel_rfl) (by kernel_rfl) (by kernel_rfl) (fun _ _ _ h => h) (by kernel_rfl) ?_ hS ?_
              rotate_left 1
              · intro V hv; have hv := HS.out V hv; obtain ⟨z0, z1, z2, z3, z4⟩ := HC.out V hv; obtain ⟨s0, s1, s2, s3, s4⟩ := HLc.out V hv; go_simp; first | done | with_reducible rfl
              try simp only [List.getElem_toArray, List.getElem_cons_zero, List.getElem_cons_succ, Act.put, List.setIfInBounds_toArray, List.set_cons_zero, List.set_cons_succ]
              refine Ord.Till.take' 1 (some 27) (oi := _) (x := ?_) rfl rfl (by kernel_rfl) (by kernel_rfl) (by kernel_rfl) (by kernel_rfl) (fun _ _ _ h => h) (by kernel_rfl) ?_ hS ?_
              rotate_left 1
              · intro V hv; have hv := HS.out V hv; obtain ⟨z0, z1, z2, z3, z4⟩ := HC.out V hv; obtain ⟨s0, s1, s2, s3, s4⟩ := HLc.out V hv; go_simp; first | done | with_reducible rfl
              try simp only [List.getElem_toArray, List.getElem_cons_zero, List.getElem_cons_succ, Act.put, List.setIfInBounds_toArray, List.set_cons_zero, List.set_cons_succ]
              refine Ord.Till.take' 2 (some 28) (oi := _) (x := ?_) rfl rfl (by kernel_rfl) (by kernel_rfl) (by kernel_rfl) (by kernel_rfl) (fun _ _ _ h => h) (by kernel_rfl) ?_ hS ?_
              rotate_left 1
              · intro V hv; have hv := HS.out V hv; obtain ⟨z0, z1, z2, z3, z4⟩ := HC.out V hv; obtain ⟨s0, s1, s2, s3, s4⟩ := HLc.out V hv; go_simp; first | done | with_reducible rfl
              try simp only [List.getElem_toArray, List.getElem_cons_zero, List.getElem_cons_succ, Act.put, List.setIfInBounds_toArray, List.set_cons_zero, List.set_cons_succ]
              refine Ord.Till.take' 3 (some 29) (oi := _) (x := ?_) rfl rfl (by kernel_rfl) (by kernel_rfl) (by kernel_rfl) (by kernel_rfl) (fun _ _ _ h => h) (by kernel_rfl) ?_ hS ?_
              rotate_left 1
              · intro V hv; have hv := HS.out V hv; obtain ⟨z0, z1, z2, z3, z4⟩ := HC.out V hv; obtain ⟨s0, s1, s2, s3, s4⟩ := HLc.out V hv; go_simp; first | done | with_reducible rfl
              try simp only [List.getElem_toArray, List.getElem_cons_zero, List.getElem_cons_succ, Act.put, List.setIfInBounds_toArray, List.set_cons_zero, List.set_cons_succ]
              refine Ord.Till.take' 4 (some 30) (oi := _) (x := ?_) rfl rfl (by kernel_rfl) (by kernel_rfl) (by kernel_rfl) (by kernel_rfl) (fun _ _ _ h => h) (by kernel_rfl) ?_ hS ?_
              rotate_left 1
              · intro V hv; have hv := HS.out V hv; obtain ⟨z0, z1, z2, z3, z4⟩ := HC.out V hv; obtain ⟨s0, s1, s2, s3, s4⟩ := HLc.out V hv; go_simp; first | done | with_reducible rfl
              try simp only [List.getElem_toArray, List.getElem_cons_zero, List.getElem_cons_succ, Act.put, List.setIfInBounds_toArray, List.set_cons_zero, List.set_cons_succ]
              refine Ord.Till.take' 5 (some 31) (oi := _) (x := ?_) rfl rfl (by kernel_rfl) (by kernel_rfl) (by kernel_rfl) (by kernel_rfl) (fun _ _ _ h => h) (by kernel_rfl) ?_ hS ?_
              rotate_left 1
              · intro V hv; have hv := HS.out V hv; obtain ⟨z0, z1, z2, z3, z4⟩ := HC.out V hv; obtain ⟨s0, s1, s2, s3, s4⟩ := HLc.out V hv; go_simp; first | done | with_reducible rfl
              try simp only [List.getElem_toArray, List.getElem_cons_zero, List.getElem_cons_succ, Act.put, List.setIfInBounds_toArray, List.set_cons_zero, List.set_cons_succ]
              refine Ord.Till.take' 6 (some 32) (oi := _) (x := ?_) rfl rfl (by kernel_rfl) (by kernel_rfl) (by kernel_rfl) (by kernel_rfl) (fun _ _ _ h => h) (by kernel_rfl) ?_ hS ?_
              rotate_left 1
              · intro V hv; have hv := HS.out V hv; obtain ⟨z0, z1, z2, z3, z4⟩ := HC.out V hv; obtain ⟨s0, s1, s2, s3, s4⟩ := HLc.out V hv; go_simp; first | done | with_reducible rfl
              try simp only [List.getElem_toArray, List.getElem_cons_zero, List.getElem_cons_succ, Act.put, List.setIfInBounds_toArray, List.set_cons_zero, List.set_cons_succ]
              refine Ord.Till.take' 7 (some 33) (oi := _) (x := ?_) rfl rfl (by kernel_rfl) (by kernel_rfl) (by kernel_rfl) (by kernel_rfl) (fun _ _ _ h => h) (by kernel_rfl) ?_ hS ?_
              rotate_left 1
              · intro V hv; have hv := HS.out V hv; obtain ⟨z0, z1, z2, z3, z4⟩ := HC.out V hv; obtain ⟨s0, s1, s2, s3, s4⟩ := HLc.out V hv; go_simp; first | done | with_reducible rfl
              try simp only [List.getElem_toArray, List.getElem_cons_zero, List.getElem_cons_succ, Act.put, List.setIfInBounds_toArray, List.set_cons_zero, List.set_cons_succ]
              refine Ord.Till.take' 8 (some 34) (oi := _) (x := ?_) rfl rfl (by kernel_rfl) (by kernel_rfl) (by kernel_rfl) (by kernel_rfl) (fun _ _ _ h => h) (by kernel_rfl) ?_ hS ?_
              rotate_left 1
              · intro V hv; have hv := HS.out V hv; obtain ⟨z0, z1, z2, z3, z4⟩ := HC.out V hv; obtain ⟨s0, s1, s2, s3, s4⟩ := HLc.out V hv; go_simp; first | done | with_reducible rfl
              try simp only [List.getElem_toArray, List.getElem_cons_zero, List.getElem_cons_succ, Act.put, List.setIfInBounds_toArray, List.set_cons_zero, List.set_cons_succ]
              refine Ord.Till.take' 9 (some 35) (oi := _) (x := ?_) rfl rfl (by kernel_rfl) (by kernel_rfl) (by kernel_rfl) (by kernel_rfl) (fun _ _ _ h => h) (by kernel_rfl) ?_ hS ?_
              rotate_left 1
              · intro V hv; have hv := HS.out V hv; obtain ⟨z0, z1, z2, z3, z4⟩ := HC.out V hv; obtain ⟨s0, s1, s2, s3, s4⟩ := HLc.out V hv; go_simp; first | done | with_reducible rfl
              try simp only [List.getElem_toArray, List.getElem_cons_zero, List.getElem_cons_succ, Act.put, List.setIfInBounds_toArray, List.set_cons_zero, List.set_cons_succ]
              refine Ord.Till.take' 10 (some 36) (oi := _) (x := ?_) rfl rfl (by kernel_rfl) (by kernel_rfl) (by kernel_rfl) (by kernel_rfl) (fun _ _ _ h => h) (by kernel_rfl) ?_ hS ?_
              rotate_left 1
              · intro V hv; have hv := HS.out V hv; obtain ⟨z0, z1, z2, z3, z4⟩ := HC.out V hv; obtain ⟨s0, s1, s2, s3, s4⟩ := HLc.out V hv; go_simp; first | done | with_reducible rfl
              try simp only [List.getElem_toArray, List.getElem_cons_zero, List.getElem_cons_succ, Act.put, List.setIfInBounds_toArray, List.set_cons_zero, List.set_cons_succ]
              refine Ord.Till.take' 11 (some 37) (oi := _) (x := ?_) rfl rfl (by kernel_rfl) (by kernel_rfl) (by kernel_rfl) (by kernel_rfl) (fun _ _ _ h => h) (by kernel_rfl) ?_ hS ?_
              rotate_left 1
              · intro V hv; have hv := HS.out V hv; obtain ⟨z0, z1, z2, z3, z4⟩ := HC.out V hv; obtain ⟨s0, s1, s2, s3, s4⟩ := HLc.out V hv; go_simp; first | done | with_reducible rfl
              try simp only [List.getElem_toArray, List.getElem_cons_zero, List.getElem_cons_succ, Act.put, List.setIfInBounds_toArray, List.set_cons_zero, List.set_cons_succ]
              refine Ord.Till.take' 12 (some 38) (oi := _) (x := ?_) rfl rfl (by kernel_rfl) (by kernel_rfl) (by kernel_rfl) (by kernel_rfl) (fun _ _ _ h => h) (by kernel_rfl) ?_ hS ?_
              rotate_left 1
              · intro V hv; have hv := HS.out V hv; obtain ⟨z0, z1, z2, z3, z4⟩ := HC.out V hv; obtain ⟨s0, s1, s2, s3, s4⟩ := HLc.out V hv; go_simp; first | done | with_reducible rfl
              try simp only [List.getElem_toArray, List.getElem_cons_zero, List.getElem_cons_succ, Act.put, List.setIfInBounds_toArray, List.set_cons_zero, List.set_cons_succ]
              have HB1 := hid (HBf.out ⟨⟨y0, y1, y2, y3⟩, y4⟩ wr.drew)
              refine Ord.Till.step 13 (by kernel_rfl) rfl (fun C hC => ?_)
              go_simp
              refine HB1.out.mono ?_
              rintro e w5 ⟨rfl, hb5⟩
              have hS : (fun V : World => Below wr.heap.size wr V) w5 := hS.trans hb5
              refine hC.out _ _ (fun _ => hS) ?_
              clear hC C
              try simp only [List.getElem_toArray, List.getElem_cons_zero, List.getElem_cons_succ, Act.put, List.setIfInBounds_toArray, List.set_cons_zero, List.set_cons_succ]
              refine Ord.Till.take' 14 (some 40) (oi := _) (x := ?_) rfl rfl (by kernel_rfl) (by kernel_rfl) (by kernel_rfl) (by kernel_rfl) (fun _ _ _ h => h) (by kernel_rfl) ?_ hS ?_
              rotate_left 1
              · intro V hv; go_simp; first | done | with_reducible rfl
              try simp only [List.getElem_toArray, List.getElem_cons_zero, List.getElem_cons_succ, Act.put, List.setIfInBounds_toArray, List.set_cons_zero, List.set_cons_succ]
              refine Ord.Till.done (by kernel_rfl) ?_ _
              go_wp2_with fail
              go_meet
              exact ⟨by rw [hdk]; rfl, hS⟩
            · have hki : ¬ (k : Int) < (L.length : Int) := by omega
              have hdk : decide (k < L.length) = false := decide_eq_false hkl
              refine Ord.Till.take' 0 (some 26) (oi := _) (x := ?_) rfl rfl (by kernel_rfl) (by kernel_rfl) (by kernel_rfl) (by kernel_rfl) (fun _ _ _ h => h) (by kernel_rfl) ?_ hS ?_
              rotate_left 1
              · intro V hv; go_simp; first | done | with_reducible rfl
              try simp only [List.getElem_toArray, List.getElem_cons_zero, List.getElem_cons_succ, Act.put, List.setIfInBounds_toArray, List.set_cons_zero, List.set_cons_succ]
              refine Ord.Till.take' 1 (some 27) (oi := _) (x := ?_) rfl rfl (by kernel_rfl) (by kernel_rfl) (by kernel_rfl) (by kernel_rfl) (fun _ _ _ h => h) (by kernel_rfl) ?_ hS ?_
              rotate_left 1
              · intro V hv; go_simp; first | done | with_reducible rfl
              try simp only [List.getElem_toArray, List.getElem_cons_zero, List.getElem_cons_succ, Act.put, List.setIfInBounds_toArray, List.set_cons_zero, List.set_cons_succ]
              refine Ord.Till.take' 2 (some 28) (oi := _) (x := ?_) rfl rfl (by kernel_rfl) (by kernel_rfl) (by kernel_rfl) (by kernel_rfl) (fun _ _ _ h => h) (by kernel_rfl) ?_ hS ?_
              rotate_left 1
              · intro V hv; go_simp; first | done | with_reducible rfl
              try simp only [List.getElem_toArray, List.getElem_cons_zero, List.getElem_cons_succ, Act.put, List.setIfInBounds_toArray, List.set_cons_zero, List.set_cons_succ]
              refine Ord.Till.take' 3 (some 29) (oi := _) (x := ?_) rfl rfl (by kernel_rfl) (by kernel_rfl) (by kernel_rfl) (by kernel_rfl) (fun _ _ _ h => h) (by kernel_rfl) ?_ hS ?_
              rotate_left 1
              · intro V hv; go_simp; first | done | with_reducible rfl
              try simp only [List.getElem_toArray, List.getElem_cons_zero, List.getElem_cons_succ, Act.put, List.setIfInBounds_toArray, List.set_cons_zero, List.set_cons_succ]
              refine Ord.Till.take' 4 (some 30) (oi := _) (x := ?_) rfl rfl (by kernel_rfl) (by kernel_rfl) (by kernel_rfl) (by kernel_rfl) (fun _ _ _ h => h) (by kernel_rfl) ?_ hS ?_
              rotate_left 1
              · intro V hv; go_simp; first | done | with_reducible rfl
              try simp only [List.getElem_toArray, List.getElem_cons_zero, List.getElem_cons_succ, Act.put, List.setIfInBounds_toArray, List.set_cons_zero, List.set_cons_succ]
              refine Ord.Till.skip' 5 (some 31) (oi := _) rfl rfl (by kernel_rfl) (by kernel_rfl) (by kernel_rfl) (by kernel_rfl) (fun _ _ _ h => h) (by kernel_rfl) hS ?_
              try simp only [List.getElem_toArray, List.getElem_cons_zero, List.getElem_cons_succ, Act.put, List.setIfInBounds_toArray, List.set_cons_zero, List.set_cons_succ]
              refine Ord.Till.skip' 6 (some 32) (oi := _) rfl rfl (by kernel_rfl) (by kernel_rfl) (by kernel_rfl) (by kernel_rfl) (fun _ _ _ h => h) (by kernel_rfl) hS ?_
              try simp only [List.getElem_toArray, List.getElem_cons_zero, List.getElem_cons_succ, Act.put, List.setIfInBounds_toArray, List.set_cons_zero, List.set_cons_succ]
              refine Ord.Till.skip' 7 (some 33) (oi := _) rfl rfl (by kernel_rfl) (by kernel_rfl) (by kernel_rfl) (by kernel_rfl) (fun _ _ _ h => h) (by kernel_rfl) hS ?_
              try simp only [List.getElem_toArray, List.getElem_cons_zero, List.getElem_cons_succ, Act.put, List.setIfInBounds_toArray, List.set_cons_zero, List.set_cons_succ]
              refine Ord.Till.skip' 8 (some 34) (oi := _) rfl rfl (by kernel_rfl) (by kernel_rfl) (by kernel_rfl) (by kernel_rfl) (fun _ _ _ h => h) (by kernel_rfl) hS ?_
              try simp only [List.getElem_toArray, List.getElem_cons_zero, List.getElem_cons_succ, Act.put, List.setIfInBounds_toArray, List.set_cons_zero, List.set_cons_succ]
              refine Ord.Till.skip' 9 (some 35) (oi := _) rfl rfl (by kernel_rfl) (by kernel_rfl) (by kernel_rfl) (by kernel_rfl) (fun _ _ _ h => h) (by kernel_rfl) hS ?_
              try simp only [List.getElem_toArray, List.getElem_cons_zero, List.getElem_cons_succ, Act.put, List.setIfInBounds_toArray, List.set_cons_zero, List.set_cons_succ]
              refine Ord.Till.skip' 10 (some 36) (oi := _) rfl rfl (by kernel_rfl) (by kernel_rfl) (by kernel_rfl) (by kernel_rfl) (fun _ _ _ h => h) (by kernel_rfl) hS ?_
              try simp only [List.getElem_toArray, List.getElem_cons_zero, List.getElem_cons_succ, Act.put, List.setIfInBounds_toArray, List.set_cons_zero, List.set_cons_succ]
              refine Ord.Till.skip' 11 (some 37) (oi := _) rfl rfl (by kernel_rfl) (by kernel_rfl) (by kernel_rfl) (by kernel_rfl) (fun _ _ _ h => h) (by kernel_rfl) hS ?_
              try simp only [List.getElem_toArray, List.getElem_cons_zero, List.getElem_cons_succ, Act.put, List.setIfInBounds_toArray, List.set_cons_zero, List.set_cons_succ]
              refine Ord.Till.skip' 12 (some 38) (oi := _) rfl rfl (by kernel_rfl) (by kernel_rfl) (by kernel_rfl) (by kernel_rfl) (fun _ _ _ h => h) (by kernel_rfl) hS ?_
              try simp only [List.getElem_toArray, List.getElem_cons_zero, List.getElem_cons_succ, Act.put, List.setIfInBounds_toArray, List.set_cons_zero, List.set_cons_succ]
              refine Ord.Till.skip' 13 (some 39) (oi := _) rfl rfl (by kernel_rfl) (by kernel_rfl) (by kernel_rfl) (by kernel_rfl) (fun _ _ _ h => h) (by kernel_rfl) hS ?_
              try simp only [List.getElem_toArray, List.getElem_cons_zero, List.getElem_cons_succ, Act.put, List.setIfInBounds_toArray, List.set_cons_zero, List.set_cons_succ]
              refine Ord.Till.take' 14 (some 40) (oi := _) (x := ?_) rfl rfl (by kernel_rfl) (by kernel_rfl) (by kernel_rfl) (by kernel_rfl) (fun _ _ _ h => h) (by kernel_rfl) ?_ hS ?_
              rotate_left 1
              · intro V hv; go_simp; first | done | with_reducible rfl
              try simp only [List.getElem_toArray, List.getElem_cons_zero, List.getElem_cons_succ, Act.put, List.setIfInBounds_toArray, List.set_cons_zero, List.set_cons_succ]
              refine Ord.Till.done (by kernel_rfl) ?_ _
              go_wp2_with fail
              go_meet
              exact ⟨by rw [hdk]; rfl, hS⟩
          case rest =>
            obtain ⟨rfl, hbc⟩ := hcut
            have hOc := hO7.out.below hbc
            have hb7c := hb7.trans (hbc.mono hb7s)
            have z := HC.out wc hb7c
            clear hO7 hb7 hbc hb7s
            by_cases hcont : k < L.length ∧ bb = true
            · obtain ⟨hkl, rfl⟩ := hcont
              have hki : (k : Int) < (L.length : Int) := by omega
              have hdk : decide (k < L.length) = true := decide_eq_true hkl
              rw [hdk]
              obtain ⟨b5, o5, rfl, _, s0, s1, s2, s3, s4⟩ := (HRL.out.below hb7c).at_ hkl
              have HP1 : Hid (∀ j (h : j < L.length), j < k + 1 → bef L[j] ⟨⟨x0, 3, x2, x3⟩, x4⟩ = true) := hid fun j h hj => by
                by_cases hjk : j = k
                · subst hjk
                  exact (HBB.out hkl).symm
                · exact hP.out j h (by omega)
              have HTk : Hid (rcells (L.take (k + 1)) = rcells (L.take k) ++ rcell L[k]) := hid (by rw [List.take_succ_eq_append_getElem hkl, rcells_app]; simp [rcells])
              clear hP HBB z hdk
              generalize L[k] = y at *
              obtain ⟨⟨y0, y1, y2, y3⟩, y4⟩ := y
              simp only at s0 s1 s2 s3 s4
              go_wp2_with (at_builtin; go_must (refine Cel.wpList_push kR wc w0.heap.size (.slice A7 k c7) k (rcells (L.take k)) hOc hb7c.size 1 1 #[.string y0, .int .i64 y1, .int .i64 y2, .int .i64 y3, .int .i64 y4] (0, 0) rfl (by simp [Value.oneCell']) (by omega) (by omega) rfl (.tmp 41) (.tmp 46) rfl rfl rfl ?_); intro v4 w4 ho4 hb4 _ _; obtain ⟨A4, c4, rfl, _⟩ := ho4.reads)
              have hb04 := hb7c.trans hb4
              have hO4 := hid ho4
              clear ho4 hb4
              go_roundw
              · exact ⟨k + 1, c4, A4, rfl, by go_num, by omega, HP1, hid (by rw [HTk.out]; exact hO4.out), hb04⟩
              · simp [intOf]; omega
            · have hbf : (decide (k < L.length) && bb) = false := by
                cases hd : decide (k < L.length)
                · rfl
                · cases bb
                  · rfl
                  · exact absurd ⟨of_decide_eq_true hd, rfl⟩ hcont
              have HIn : Hid (ins L ⟨⟨x0, 3, x2, x3⟩, x4⟩ = L.take k ++ ⟨⟨x0, 3, x2, x3⟩, x4⟩ :: L.drop k) := hid (ins_eq L _ k hk hP.out fun h => by
                have := HBB.out h
                cases hbv : bb
                · rw [← this]; exact hbv
                · exact absurd ⟨h, hbv⟩ hcont)
              rw [hbf]
              obtain ⟨z0, z1, z2, z3, z4⟩ := z
              clear hP HBB hcont hbf
              have hcases : (A5 = none ∧ L.length = 0 ∧ c5 = 0) ∨ ∃ g, A5 = some ⟨g, 0, none⟩ := by
                rcases HOw.out.2 with ⟨e, h0⟩ | ⟨g, cap, cur, mm, e, _⟩
                · injection e with e1 _ e3
                  exact .inl ⟨e1, h0, e3⟩
                · injection e with e1 _ _
                  exact .inr ⟨g, e1⟩
              rcases hcases with ⟨rfl, hL0, rfl⟩ | ⟨g, rfl⟩
              · have hLn : L = [] := List.eq_nil_of_length_eq_zero hL0
                subst hLn
                obtain rfl : k = 0 := by simpa using hk
                clear hL0
                have HR9 : Hid (∀ V, Below w0.heap.size w0 V → Cel.Rd V w0.heap.size none 0 5 (rcells [])) := hid fun V _ => Cel.Rd.nil _ _ _ _
                have HT := hid fun (w4 : World) (hb4 : Below w0.heap.size w0 w4) => HR9.out w4 hb4
                go_upto_region 12 with (at_builtin; go_must (refine Cel.wpList_push kR wc w0.heap.size (.slice A7 0 c7) 0 (rcells (List.take 0 [])) hOc hb7c.size 1 1 #[.string x0, .int .i64 3, .int .i64 x2, .int .i64 x3, .int .i64 x4] (0, 0) rfl (by simp [Value.oneCell']) (by omega) (by omega) rfl (.tmp 50) (.tmp 55) rfl rfl rfl ?_); intro v4 w4 ho4 hb4 _ _; obtain ⟨A4, c4, rfl, _⟩ := ho4.reads)
                have hb04 := hb7c.trans hb4
                go_wp2_with (at_builtin; go_must (refine Cel.wpList_rd kR w4 w0.heap.size w0.heap.size (.slice A4 (0 + 1) c4) (0 + 1) _ ho4 hb04.size _ 0 _ (rcells []) (HT.out w4 hb04) rcells_one (by omega) (by omega) rfl (.tmp 57) (.tmp 60) rfl rfl rfl ?_); intro v6 w6 ho6 hb6; obtain ⟨A6, c6, rfl, _⟩ := ho6.reads)
                have hb06 := hid (hb.trans ((hb04.trans hb6).mono hbs))
                have hO6 := hid ((ho6.more hbs : Cel.Own 40 5 w6 w.heap.size _ _ _))
                clear ho4 hb4 ho6 hb6 hb04 HT
                go_roundw
                · exact ⟨i + 1, 0 + 1 + 0, c6, A6, rfl, by go_num, by omega, by omega, hid ⟨by rw [HS2.out, HIn.out, List.length_append, List.length_cons, List.length_take, List.length_drop]; omega, by rw [HS2.out, HIn.out, rcells_app]; have h := hO6.out; rw [List.append_assoc] at h; exact h⟩, hb06.out⟩
                · simp [intOf]; omega
              · by_cases hck : c5 = k
                · have HR9 : Hid (∀ V, Below w0.heap.size w0 V → Cel.Rd V w0.heap.size (some ⟨g, 0, none⟩) (L.length - k) 5 (rcells (L.drop k))) := hid fun V hV => by
                    have h := rd_tailR (k := k) (HRL.out.below hV) hk hmc
                    rw [if_pos hck] at h
                    exact h
                  have HT := hid fun (w4 : World) (hb4 : Below w0.heap.size w0 w4) => HR9.out w4 hb4
                  go_upto_region 12 with (at_builtin; go_must (refine Cel.wpList_push kR wc w0.heap.size (.slice A7 k c7) k (rcells (L.take k)) hOc hb7c.size 1 1 #[.string x0, .int .i64 3, .int .i64 x2, .int .i64 x3, .int .i64 x4] (0, 0) rfl (by simp [Value.oneCell']) (by omega) (by omega) rfl (.tmp 50) (.tmp 55) rfl rfl rfl ?_); intro v4 w4 ho4 hb4 _ _; obtain ⟨A4, c4, rfl, _⟩ := ho4.reads)
                  have hb04 := hb7c.trans hb4
                  go_wp2_with (at_builtin; go_must (refine Cel.wpList_rd kR w4 w0.heap.size w0.heap.size (.slice A4 (k + 1) c4) (k + 1) _ ho4 hb04.size _ (L.length - k) _ (rcells (L.drop k)) (HT.out w4 hb04) rcells_one (by omega) (by omega) rfl (.tmp 57) (.tmp 60) rfl rfl rfl ?_); intro v6 w6 ho6 hb6; obtain ⟨A6, c6, rfl, _⟩ := ho6.reads)
                  have hb06 := hid (hb.trans ((hb04.trans hb6).mono hbs))
                  have hO6 := hid ((ho6.more hbs : Cel.Own 40 5 w6 w.heap.size _ _ _))
                  clear ho4 hb4 ho6 hb6 hb04 HT
                  go_roundw
                  · exact ⟨i + 1, k + 1 + (L.length - k), c6, A6, rfl, by go_num, by omega, by omega, hid ⟨by rw [HS2.out, HIn.out, List.length_append, List.length_cons, List.length_take, List.length_drop]; omega, by rw [HS2.out, HIn.out, rcells_app]; have h := hO6.out; rw [List.append_assoc] at h; exact h⟩, hb06.out⟩
                  · simp [intOf]; omega
                · have HR9 : Hid (∀ V, Below w0.heap.size w0 V → Cel.Rd V w0.heap.size (some ⟨g, k * 5, none⟩) (L.length - k) 5 (rcells (L.drop k))) := hid fun V hV => by
                    have h := rd_tailR (k := k) (HRL.out.below hV) hk hmc
                    rw [if_neg hck, Nat.zero_add] at h
                    exact h
                  have HT := hid fun (w4 : World) (hb4 : Below w0.heap.size w0 w4) => HR9.out w4 hb4
                  go_upto_region 12 with (at_builtin; go_must (refine Cel.wpList_push kR wc w0.heap.size (.slice A7 k c7) k (rcells (L.take k)) hOc hb7c.size 1 1 #[.string x0, .int .i64 3, .int .i64 x2, .int .i64 x3, .int .i64 x4] (0, 0) rfl (by simp [Value.oneCell']) (by omega) (by omega) rfl (.tmp 50) (.tmp 55) rfl rfl rfl ?_); intro v4 w4 ho4 hb4 _ _; obtain ⟨A4, c4, rfl, _⟩ := ho4.reads)
                  have hb04 := hb7c.trans hb4
                  go_wp2_with (at_builtin; go_must (refine Cel.wpList_rd kR w4 w0.heap.size w0.heap.size (.slice A4 (k + 1) c4) (k + 1) _ ho4 hb04.size _ (L.length - k) _ (rcells (L.drop k)) (HT.out w4 hb04) rcells_one (by omega) (by omega) rfl (.tmp 57) (.tmp 60) rfl rfl rfl ?_); intro v6 w6 ho6 hb6; obtain ⟨A6, c6, rfl, _⟩ := ho6.reads)
                  have hb06 := hid (hb.trans ((hb04.trans hb6).mono hbs))
                  have hO6 := hid ((ho6.more hbs : Cel.Own 40 5 w6 w.heap.size _ _ _))
                  clear ho4 hb4 ho6 hb6 hb04 HT
                  go_roundw
                  · exact ⟨i + 1, k + 1 + (L.length - k), c6, A6, rfl, by go_num, by omega, by omega, hid ⟨by rw [HS2.out, HIn.out, List.length_append, List.length_cons, List.length_take, List.length_drop]; omega, by rw [HS2.out, HIn.out, rcells_app]; have h := hO6.out; rw [List.append_assoc] at h; exact h⟩, hb06.out⟩
                  · simp [intOf]; omega
      · have HS2 : Hid (srtK xs (i + 1) = srtK xs i) := hid (by rw [HS1.out]; exact if_neg (by unfold com; simpa using hbd))
        have hbd' : (x1 == 3) = false := by simpa using hbd
        clear hbd HS1
        go_wp2_with fail
        go_roundw
        · exact ⟨i + 1, m, c5, A5, rfl, by go_num, by omega, by omega, hid (by rw [HS2.out]; exact hO.out), hb⟩
        · simp [intOf]; omega
    · obtain rfl : i = n := by omega
      have hii : ¬ (i : Int) < (i : Int) := by omega
      have HL : srtK xs i = srt xs := by unfold srtK; rw [List.take_of_length_le (by omega)]
      have HLy : Hid (layL xs = layS (srt xs)) := hid rfl
      have HCo : Hid (∀ x ∈ srt xs, ComOk x) := hid fun x hx => by
        have hf := (srt_perm xs).mem_iff.1 hx
        rw [List.mem_filter] at hf
        exact HG.out.ok x hf.1 hf.2
      rw [HL] at hO
      clear HL
      generalize srt xs = L at *
      obtain ⟨hmL, hOc⟩ := hO.out
      obtain ⟨A5', c5', e5, hRd, _, _⟩ := Cel.Own.reads hOc
      injection e5 with e51 _ e53
      subst e51 e53
      have HRL : Hid (RdR wr wr.heap.size A5 m L) := hid ⟨hmL.symm, hRd⟩
      have hLm := hid hmL
      have HBw := hid hb
      clear hO hOc hRd hmL
      generalize wr = w1 at *
      go_wp2_with fail
      go_loopw [9, 10, 11, 12] (fun v ev av iv W => ∃ (j c9 : Nat) (A9 : Option Addr), v = .slice A9 j c9 ∧ ev = .int .i64 (layS (L.take j)).fin ∧ av = .int .i64 (layS (L.take j)).al ∧ iv = .int .i64 (j : Int) ∧ j ≤ m ∧ Hid (Cel.Own 35 3 W w1.heap.size (.slice A9 j c9) j (scells (layS (L.take j)).out)) ∧ Below w1.heap.size w1 W) (fun _ _ _ iv _ => m - (intOf iv).toNat)
      case atStart => exact ⟨0, 0, none, rfl, rfl, rfl, rfl, Nat.zero_le _, hid (Cel.Own.nil _ _ _ _), Below.refl _ _⟩
      case round =>
        obtain ⟨j, c9, A9, rfl, rfl, rfl, rfl, hj, hO, hb1⟩ := hrel
        have hb1s := hb1.size
        have hLb := layS_fin (L.take j) fun x hx => HCo.out x (List.mem_of_mem_take hx)
        have htl : (L.take j).length ≤ 100 := by rw [List.length_take]; omega
        by_cases hjm : j < m
        · have hjl : j < L.length := by have := hLm.out; omega
          have hji : (j : Int) < (m : Int) := by omega
          obtain ⟨b, o, rfl, _, p0, p1, p2, p3, p4⟩ := (HRL.out.below hb1).at_ hjl
          have HSt := hid (show layS (L.take (j + 1)) = (layS (L.take j)).step L[j] by rw [List.take_succ_eq_append_getElem hjl, layS_snoc])
          have hco := HCo.out L[j] (List.getElem_mem hjl)
          generalize L[j] = x at *
          obtain ⟨⟨x0, x1, x2, x3⟩, x4⟩ := x
          obtain ⟨hc1, hc2, hc3, hc4⟩ := hco
          generalize layS (L.take j) = Q at *
          obtain ⟨out, f, al⟩ := Q
          simp only at p0 p1 p2 p3 p4 hc1 hc2 hc3 hc4 hLb hO ⊢
          obtain ⟨hf0, hf1, ha0, ha1, hol⟩ := hLb
          have hf2 : f ≤ 429503283100 := by omega
          have hr0 := Int.emod_nonneg f (show x3 ≠ 0 by omega)
          have hr1 := Int.emod_lt_of_pos f (show 0 < x3 by omega)
          have hn3 : (x3 == 0) = false := by simp; omega
          have hup := upTo_le (e := f) hc3
          have HSt2 : Hid (layS (L.take (j + 1)) = ⟨out ++ [⟨x0, upTo f x3, x2⟩], upTo f x3 + x2, max al x3⟩) := hid HSt.out
          have hue : upTo f x3 = if f % x3 ≠ 0 then f + x3 - f % x3 else f := rfl
          have hO1 := hO.out
          clear hf1 HSt hO
          have hS1 : Below wr.heap.size wr (wr.alloc (.cells #[.string x0, .int .i64 x1, .int .i64 x2, .int .i64 x3, .int .i64 x4] 40)) := (Below.refl _ _).alloc (Nat.le_refl _) _
          have hn1 := heap_alloc_new wr (.cells #[.string x0, .int .i64 x1, .int .i64 x2, .int .i64 x3, .int .i64 x4] 40)
          have hz1 := World.size_alloc wr (.cells #[.string x0, .int .i64 x1, .int .i64 x2, .int .i64 x3, .int .i64 x4] 40)
          have HQ := hid fun (V : World) (hV : Below (wr.alloc (.cells #[.string x0, .int .i64 x1, .int .i64 x2, .int .i64 x3, .int .i64 x4] 40)).heap.size (wr.alloc (.cells #[.string x0, .int .i64 x1, .int .i64 x2, .int .i64 x3, .int .i64 x4] 40)) V) => (hV.block wr.heap.size (by simp)).trans hn1
          have hO5 := hO1.below hS1
          have hb5 := hb1.trans (hS1.mono hb1s)
          go_upto_region 20 with fail
          generalize wr.alloc (.cells #[.string x0, .int .i64 x1, .int .i64 x2, .int .i64 x3, .int .i64 x4] 40) = w5 at *
          generalize wr.heap.size = g at *
          have q0 := cell_of_row _ g 0 _ _ _ hn1
          have q2 := cell_of_row _ g 2 _ _ _ hn1
          have q3 := cell_of_row _ g 3 _ _ _ hn1
          clear p0 p1 p2 p3 p4 hO1 hb1 hS1 hn1 hz1 hb1s
          by_cases hr : f % x3 = 0
          · rw [if_neg (by simpa using hr)] at hue
            rw [hue] at hup HSt2
            clear hue
            go_upto_region 23 with (at_builtin; go_must (refine Cel.wpList_push kT w5 w1.heap.size (.slice A9 j c9) j (scells out) hO5 hb5.size 1 1 #[.string x0, .int .i64 f, .int .i64 x2] (0, 0) rfl (by simp [Value.oneCell']) (by omega) (by omega) rfl (.tmp 86) (.tmp 93) rfl rfl rfl ?_); intro v6 w6 ho6 hb6 ot6 fr6; obtain ⟨A6, c6, rfl, _⟩ := ho6.reads; have ho6 := hid ho6; have hb6 := hid hb6)
            have q := ot6 g _ (HQ.out w5 (Below.refl _ _)) (fun cs m e => by injection e with _ e2; exact absurd e2 (by decide))
            have q2 := cell_of_row _ g 2 _ _ _ q
            have q3 := cell_of_row _ g 3 _ _ _ q
            have HO6 : Hid (Cel.Own 35 3 w6 w1.heap.size (.slice A6 (j + 1) c6) (j + 1) (scells (layS (L.take (j + 1))).out)) := hid (by rw [HSt2.out, scells_app]; exact ho6.out)
            have HB6 := hid (hb5.trans hb6.out)
            have hu2 : f ≤ 429503283100 + 65536 := by omega
            clear ho6 hb6 hO5 hb5 q HQ
            go_wp2_with fail
            go_roundw
            · exact ⟨j + 1, c6, A6, rfl, by rw [HSt2.out], by rw [HSt2.out]; exact congrArg (Value.int .i64) (show (if al < x3 then x3 else al) = max al x3 by rw [Int.max_def]; split <;> split <;> omega), by go_num, by omega, HO6, HB6.out⟩
            · simp [intOf]; omega
          · rw [if_pos hr] at hue
            generalize upTo f x3 = u at *
            have hrb : (f % x3 == 0) = false := by simpa using hr
            have hsub : f + x3 - f % x3 = u := hue.symm
            clear hr hue
            go_wp2_with fail
            go_quiet (fail)
            have q := HQ.out (World.drewN w5 nq) ⟨rfl, rfl, rfl, Nat.le_refl _, fun _ _ => rfl⟩
            have hO5 : Cel.Own 35 3 (World.drewN w5 nq) w1.heap.size (.slice A9 j c9) j (scells out) := hO5
            have hb5 := bdw hb5 nq
            have HQ := hid fun (V : World) (hV : Below (World.drewN w5 nq).heap.size (World.drewN w5 nq) V) => (hV.block g (Array.getElem?_eq_some_iff.1 q).1).trans q
            have q0 := cell_of_row _ g 0 _ _ _ q
            have q2 := cell_of_row _ g 2 _ _ _ q
            have q3 := cell_of_row _ g 3 _ _ _ q
            generalize World.drewN w5 nq = w5 at *
            go_upto_region 23 with (at_builtin; go_must (refine Cel.wpList_push kT w5 w1.heap.size (.slice A9 j c9) j (scells out) hO5 hb5.size 1 1 #[.string x0, .int .i64 u, .int .i64 x2] (0, 0) rfl (by simp [Value.oneCell']) (by omega) (by omega) rfl (.tmp 86) (.tmp 93) rfl rfl rfl ?_); intro v6 w6 ho6 hb6 ot6 fr6; obtain ⟨A6, c6, rfl, _⟩ := ho6.reads; have ho6 := hid ho6; have hb6 := hid hb6)
            have q := ot6 g _ (HQ.out w5 (Below.refl _ _)) (fun cs m e => by injection e with _ e2; exact absurd e2 (by decide))
            have q2 := cell_of_row _ g 2 _ _ _ q
            have q3 := cell_of_row _ g 3 _ _ _ q
            have HO6 : Hid (Cel.Own 35 3 w6 w1.heap.size (.slice A6 (j + 1) c6) (j + 1) (scells (layS (L.take (j + 1))).out)) := hid (by rw [HSt2.out, scells_app]; exact ho6.out)
            have HB6 := hid (hb5.trans hb6.out)
            have hu2 : u ≤ 429503283100 + 65536 := by omega
            clear ho6 hb6 hO5 hb5 q HQ
            go_wp2_with fail
            go_roundw
            · exact ⟨j + 1, c6, A6, rfl, by rw [HSt2.out], by rw [HSt2.out]; exact congrArg (Value.int .i64) (show (if al < x3 then x3 else al) = max al x3 by rw [Int.max_def]; split <;> split <;> omega), by go_num, by omega, HO6, HB6.out⟩
            · simp [intOf]; omega
        · obtain rfl : j = m := by omega
          have hji : ¬ (j : Int) < (j : Int) := by omega
          have ht : L.take j = L := List.take_of_length_le (by have := hLm.out; omega)
          rw [ht] at hO ⊢
          have hlen : (layS L).out.length = j := by have h := (layS_fin L HCo.out).2.2.2.2; have := hLm.out; omega
          have HO9 := hid ((hO.out.more hbs : Cel.Own 35 3 wr w.heap.size _ _ _))
          have HB9 := hid (HBw.out.trans (hb1.mono hbs))
          have Hlen := hid hlen
          clear hlen hO hb1
          go_wp2_with fail
          go_ret3
          unfold RLay OwT
          rw [HLy.out, Hlen.out]
          exact ⟨A9, c9, rfl, HO9.out, HB9.out⟩
end Go.Proofs.Ytcaepgggffkjpaa.Cmn
