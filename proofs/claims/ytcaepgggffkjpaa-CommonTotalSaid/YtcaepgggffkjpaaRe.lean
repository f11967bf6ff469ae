/-
  common: what the program gives (as hypotheses, until its code landed), awake.
-/
import Derived.Test.YtcaepgggffkjpaaRd
namespace Go.Proofs.Ytcaepgggffkjpaa.Cmn
open Go.RowKit Go.Proofs Go.Proofs.Ytcaepgggffkjpaa.Byt
open Go.Proofs.Ytcaepgggffkjpaa.Tab (bl bl_iff bl_irrefl bl_trans bl_total tl_inj)
open Go.Proofs.Ytcaepgggffkjpaa.Bnd (Us)
open Go.Proofs.Ytcaepgggffkjpaa.Obj (pow2 pows)

/-- What Layout gives. -/
def LayP (t : TypeId) (xs : List Us) (w : World) (e : Ending) (w' : World) : Prop :=
  ∃ A c, e = .returned (.tuple #[.slice A (layL xs).out.length c, .int .i64 (layL xs).fin, .int .i64 (layL xs).al]) ∧ OwT t w' w.heap.size (.slice A (layL xs).out.length c) (layL xs).out ∧ Below w.heap.size w w'
/-- The first slot with a name. -/
def fnd (l : List Slt) (x : ByteArray) : Option Slt := l.find? fun s => decide (s.name = x)
def slt0 : Slt := ⟨⟨#[]⟩, 0, 0⟩
def FndP (l : List Slt) (x : ByteArray) (w : World) (e : Ending) (w' : World) : Prop := e = .returned (.tuple #[sval ((fnd l x).getD slt0), .bool (fnd l x).isSome]) ∧ Below w.heap.size w w'
/-- What the program gives. -/
structure PC : Prop where
  layout : ∀ (K : Nat) (A : Option Addr) (n c : Nat) (xs : List Us) (w : World), RdR w K A n xs → K ≤ w.heap.size → RightR xs → Calls Try.prog 10 #[.slice A n c] w (LayP 32 xs w)
  find : ∀ (K : Nat) (A : Option Addr) (n c : Nat) (l : List Slt) (x : ByteArray) (w : World), RdT w K A n l → K ≤ w.heap.size → n ≤ 1000 → Calls Try.prog 12 #[.slice A n c, .string x] w (FndP l x w)

theorem cel_lit {w : World} {t : TypeId} {cs : Array Value} {n m : Nat} {l : List Value} (e : cs.toList = l) (hn : l.length = n * m) (mk : Nat × Nat := (0, 0)) : Cel.Rd (w.alloc (.cells cs t mk)) (w.heap.size + 1) (some ⟨w.heap.size, 0, none⟩) n m l := by
  subst e
  refine ⟨hn, fun k hk => ⟨_, 0, rfl, by omega, ?_⟩⟩
  rw [cell_of_row _ w.heap.size (0 + k) _ t mk (heap_alloc_new w _), Nat.zero_add, Array.getElem?_eq_getElem (by simpa using hk)]
  rw [Array.getElem_toList]

theorem RightR.lens {xs : List Us} (h : RightR xs) : (layL xs).out.length ≤ 100 ∧ (layL xs).out.length = (xs.filter com).length ∧ (layL xs).out.length = (srt xs).length := by
  have hp := srt_perm xs
  have h1 := (layS_fin (srt xs) fun x hx => by
    have hf := hp.mem_iff.1 hx
    rw [List.mem_filter] at hf
    exact h.ok x hf.1 hf.2).2.2.2.2
  have h2 := hp.length_eq
  have h3 := List.length_filter_le com xs
  have h4 := h.len
  unfold layL
  omega

def ua : Us := ⟨⟨⟨#[97]⟩, 3, 1, 1⟩, 0⟩
def ub : Us := ⟨⟨⟨#[98]⟩, 3, 3, 4⟩, 0⟩
def uc : Us := ⟨⟨⟨#[99]⟩, 3, 8, 4⟩, 0⟩
def ud : Us := ⟨⟨⟨#[100]⟩, 1, 100, 0⟩, 0⟩
theorem exR : RightR [ua, ub, uc, ud] := by
  refine ⟨by decide, ?_, ?_⟩
  · intro x hx hc
    simp only [List.mem_cons, List.not_mem_nil, or_false] at hx
    rcases hx with rfl | rfl | rfl | rfl
    · exact ⟨by decide, by decide, by decide, by decide, 0, by decide, rfl⟩
    · exact ⟨by decide, by decide, by decide, by decide, 2, by decide, rfl⟩
    · exact ⟨by decide, by decide, by decide, by decide, 2, by decide, rfl⟩
    · exact absurd hc (by decide)
  · have e : [ua, ub, uc, ud].filter com = [ua, ub, uc] := by kernel_rfl
    unfold Dif
    rw [e]
    simp only [List.pairwise_cons, List.mem_cons, List.not_mem_nil, or_false, List.Pairwise.nil, and_true, forall_eq_or_imp, forall_eq, false_implies, implies_true]
    exact ⟨⟨by decide, by decide⟩, by decide⟩
theorem nilR : RightR [] := ⟨by decide, fun x hx => (by cases hx), List.Pairwise.nil⟩
theorem ex_lay : layL [ua, ub, uc, ud] = ⟨[⟨⟨#[99]⟩, 0, 8⟩, ⟨⟨#[98]⟩, 8, 3⟩, ⟨⟨#[97]⟩, 11, 1⟩], 12, 4⟩ := by kernel_rfl
theorem ex_nil : layL [] = ⟨[], 0, 1⟩ := rfl
def exL : List Slt := [⟨⟨#[99]⟩, 0, 8⟩, ⟨⟨#[98]⟩, 8, 3⟩, ⟨⟨#[97]⟩, 11, 1⟩]
theorem ex_b : fnd exL ⟨#[98]⟩ = some ⟨⟨#[98]⟩, 8, 3⟩ := by kernel_rfl
theorem ex_d : fnd exL ⟨#[100]⟩ = none := by kernel_rfl

theorem lay_ex (P : PC) {w : World} {K : Nat} {A : Option Addr} {c : Nat} (h : RdR w K A 4 [ua, ub, uc, ud]) (hK : K ≤ w.heap.size) : Calls Try.prog 10 #[.slice A 4 c] w fun e w' => ∃ A' c', e = .returned (.tuple #[.slice A' 3 c', .int .i64 12, .int .i64 4]) ∧ OwT 32 w' w.heap.size (.slice A' 3 c') exL ∧ Below w.heap.size w w' := by
  have h1 := P.layout K A 4 c _ w h hK exR
  unfold LayP at h1
  rw [ex_lay] at h1
  exact h1
theorem lay_nil (P : PC) (w : World) : Calls Try.prog 10 #[.slice none 0 0] w fun e w' => ∃ A' c', e = .returned (.tuple #[.slice A' 0 c', .int .i64 0, .int .i64 1]) ∧ Below w.heap.size w w' := by
  refine (P.layout 0 none 0 0 [] w ⟨rfl, rfl, fun k hk => absurd hk (by simp [rcells])⟩ (Nat.zero_le _) nilR).mono ?_
  rintro e w' ⟨A, c, rfl, _, hb⟩
  exact ⟨A, c, rfl, hb⟩
theorem ho1_reads {t : TypeId} {w : World} {K : Nat} {A : Option Addr} {c n : Nat} {l : List Slt} (h : OwT t w K (.slice A n c) l) : Cel.Rd w w.heap.size A n 3 (scells l) := by
  obtain ⟨A', c', e, hr, _, _⟩ := OwT.reads h
  injection e with e1 e2 e3
  subst e1 e2 e3
  exact hr.2
theorem fnd_b (P : PC) {w : World} {K : Nat} {A : Option Addr} (c : Nat) (h : RdT w K A 3 exL) (hK : K ≤ w.heap.size) : Calls Try.prog 12 #[.slice A 3 c, .string ⟨#[98]⟩] w fun e w' => e = .returned (.tuple #[.agg #[.string ⟨#[98]⟩, .int .i64 8, .int .i64 3], .bool true]) ∧ Below w.heap.size w w' := by
  have h1 := P.find K A 3 c exL ⟨#[98]⟩ w h hK (by decide)
  unfold FndP at h1
  rw [ex_b] at h1
  exact h1
theorem fnd_d (P : PC) {w : World} {K : Nat} {A : Option Addr} (c : Nat) (h : RdT w K A 3 exL) (hK : K ≤ w.heap.size) : Calls Try.prog 12 #[.slice A 3 c, .string ⟨#[100]⟩] w fun e w' => e = .returned (.tuple #[.agg #[.string ⟨#[]⟩, .int .i64 0, .int .i64 0], .bool false]) ∧ Below w.heap.size w w' := by
  have h1 := P.find K A 3 c exL ⟨#[100]⟩ w h hK (by decide)
  unfold FndP at h1
  rw [ex_d] at h1
  exact h1

set_option linter.unusedSimpArgs false in
set_option maxRecDepth 100000 in
set_option maxHeartbeats 1600000 in
theorem awake16_any (P : PC) (w : World) : Calls Try.prog 8 #[] w fun e w' => e = .returned (.bool true) ∧ Below w.heap.size w w' := by
  have HR0 : Hid (RdR (w.alloc (.cells #[.string ⟨#[97]⟩, .int .i64 3, .int .i64 1, .int .i64 1, .int .i64 0, .string ⟨#[98]⟩, .int .i64 3, .int .i64 3, .int .i64 4, .int .i64 0, .string ⟨#[99]⟩, .int .i64 3, .int .i64 8, .int .i64 4, .int .i64 0, .string ⟨#[100]⟩, .int .i64 1, .int .i64 100, .int .i64 0, .int .i64 0] 40)) (w.heap.size + 1) (some ⟨w.heap.size, 0, none⟩) 4 [ua, ub, uc, ud]) := hid ⟨rfl, cel_lit rfl rfl⟩
  have HB0 := hid ((Below.refl w.heap.size w).alloc (Nat.le_refl _) (.cells #[.string ⟨#[97]⟩, .int .i64 3, .int .i64 1, .int .i64 1, .int .i64 0, .string ⟨#[98]⟩, .int .i64 3, .int .i64 3, .int .i64 4, .int .i64 0, .string ⟨#[99]⟩, .int .i64 3, .int .i64 8, .int .i64 4, .int .i64 0, .string ⟨#[100]⟩, .int .i64 1, .int .i64 100, .int .i64 0, .int .i64 0] 40))
  go_enter Try.func8, Try.ntmps8
  go_upto_region 2 with fail
  generalize hw0 : w.alloc (.cells #[.string ⟨#[97]⟩, .int .i64 3, .int .i64 1, .int .i64 1, .int .i64 0, .string ⟨#[98]⟩, .int .i64 3, .int .i64 3, .int .i64 4, .int .i64 0, .string ⟨#[99]⟩, .int .i64 3, .int .i64 8, .int .i64 4, .int .i64 0, .string ⟨#[100]⟩, .int .i64 1, .int .i64 100, .int .i64 0, .int .i64 0] 40) = w0 at *
  have hs0 : w0.heap.size = w.heap.size + 1 := by rw [← hw0]; simp
  clear hw0
  have HL0 := hid (lay_ex P (c := 4) HR0.out (Nat.le_of_eq hs0.symm))
  go_upto_region 3 with (go_at_call 10; refine HL0.out.mono ?_; rintro e w1 ⟨A1, c1, rfl, ho1, hb1⟩)
  have hs1 := hb1.size
  have HO1 := hid ho1
  have HB1 := hid (HB0.out.trans (hb1.mono (by omega)))
  have HL1 := hid (lay_nil P w1)
  clear HL0 HR0 HB0 ho1 hb1
  go_upto_region 4 with (go_at_call 10; refine HL1.out.mono ?_; rintro e w2 ⟨A2, c2, rfl, hb2⟩)
  have hs2 := hb2.size
  have HR2 : Hid (RdT w2 w1.heap.size A1 3 exL) := hid (RdT.below ⟨rfl, ho1_reads HO1.out⟩ hb2)
  have HB2 := hid (HB1.out.trans (hb2.mono (by omega)))
  have HF2 := hid (fnd_b P c1 HR2.out hs2)
  clear HL1 HO1 HB1 hb2
  go_upto_region 5 with (go_at_call 12; refine HF2.out.mono ?_; rintro e w3 ⟨rfl, hb3⟩)
  obtain ⟨T, hT⟩ : ∃ T, w3.heap.size = T := ⟨_, rfl⟩
  have HQ4 := hid (heap_alloc_new w3 (.cells #[.string ⟨#[98]⟩, .int .i64 8, .int .i64 3] 32))
  have HR4 := hid ((HR2.out.below (hb3.mono hs2)).below ((Below.refl _ w3).alloc (Nat.le_trans hs2 hb3.size) (.cells #[.string ⟨#[98]⟩, .int .i64 8, .int .i64 3] 32)))
  have hs3 := hb3.size
  have HB4 := hid ((HB2.out.trans (hb3.mono (by omega))).alloc (by omega) (.cells #[.string ⟨#[98]⟩, .int .i64 8, .int .i64 3] 32))
  have hs4 : (w3.alloc (.cells #[.string ⟨#[98]⟩, .int .i64 8, .int .i64 3] 32)).heap.size = T + 1 := by rw [← hT]; simp
  rw [hT] at HQ4 ⊢
  clear HF2 HB2 HR2 hb3
  generalize w3.alloc (.cells #[.string ⟨#[98]⟩, .int .i64 8, .int .i64 3] 32) = w4 at *
  have HF4 := hid (fnd_d P c1 HR4.out (by omega))
  go_upto_region 6 with (go_at_call 12; refine HF4.out.mono ?_; rintro e w5 ⟨rfl, hb5⟩)
  have hs5 := hb5.size
  have HQ6 := hid ((Below.heap_alloc w5 (.cells #[.string ⟨#[]⟩, .int .i64 0, .int .i64 0] 32) T (by omega)).trans ((hb5.block _ (by omega)).trans HQ4.out))
  have HR6 := hid ((HR4.out.below (hb5.mono (by omega))).below ((Below.refl w1.heap.size w5).alloc (by omega) (.cells #[.string ⟨#[]⟩, .int .i64 0, .int .i64 0] 32)))
  have HB6 := hid ((HB4.out.trans (hb5.mono (by omega))).alloc (by omega) (.cells #[.string ⟨#[]⟩, .int .i64 0, .int .i64 0] 32))
  have hs6 : (w5.alloc (.cells #[.string ⟨#[]⟩, .int .i64 0, .int .i64 0] 32)).heap.size = w5.heap.size + 1 := by simp
  clear HF4 HB4 HR4 HQ4 hb5
  generalize w5.alloc (.cells #[.string ⟨#[]⟩, .int .i64 0, .int .i64 0] 32) = w6 at *
  have HS6 := hid (slots_any w1.heap.size A1 3 c1 exL w6 HR6.out (by omega) (by decide))
  go_wp2_with fail
  refine HS6.out.mono ?_
  rintro e w7 ⟨A7, c7, rfl, ho7, hb7⟩
  have hs7 := hb7.size
  have HR7 := hid (RdT.below (l := exL) (n := 3) ⟨rfl, ho1_reads ho7⟩ ((Below.refl _ w7).alloc (Nat.le_refl _) (.cells #[.string ⟨#[99]⟩, .int .i64 0, .int .i64 8, .string ⟨#[98]⟩, .int .i64 8, .int .i64 3, .string ⟨#[97]⟩, .int .i64 11, .int .i64 1] 35)))
  have HL7 : Hid (RdT (w7.alloc (.cells #[.string ⟨#[99]⟩, .int .i64 0, .int .i64 8, .string ⟨#[98]⟩, .int .i64 8, .int .i64 3, .string ⟨#[97]⟩, .int .i64 11, .int .i64 1] 35)) (w7.heap.size + 1) (some ⟨w7.heap.size, 0, none⟩) 3 exL) := hid ⟨rfl, cel_lit rfl rfl⟩
  have HQ7 := hid ((Below.heap_alloc w7 (.cells #[.string ⟨#[99]⟩, .int .i64 0, .int .i64 8, .string ⟨#[98]⟩, .int .i64 8, .int .i64 3, .string ⟨#[97]⟩, .int .i64 11, .int .i64 1] 35) T (by omega)).trans ((hb7.block _ (by omega)).trans HQ6.out))
  have HB7 := hid ((HB6.out.trans (hb7.mono (by omega))).alloc (by omega) (.cells #[.string ⟨#[99]⟩, .int .i64 0, .int .i64 8, .string ⟨#[98]⟩, .int .i64 8, .int .i64 3, .string ⟨#[97]⟩, .int .i64 11, .int .i64 1] 35))
  have hs8 : (w7.alloc (.cells #[.string ⟨#[99]⟩, .int .i64 0, .int .i64 8, .string ⟨#[98]⟩, .int .i64 8, .int .i64 3, .string ⟨#[97]⟩, .int .i64 11, .int .i64 1] 35)).heap.size = w7.heap.size + 1 := by simp
  clear HS6 HB6 HR6 HQ6 hb7 ho7
  go_wp2_with fail
  generalize w7.alloc (.cells #[.string ⟨#[99]⟩, .int .i64 0, .int .i64 8, .string ⟨#[98]⟩, .int .i64 8, .int .i64 3, .string ⟨#[97]⟩, .int .i64 11, .int .i64 1] 35) = w8 at *
  refine (rsame_any w8.heap.size _ _ _ _ _ exL w8 (HR7.out.more (by omega)) (HL7.out.more (by omega)) (Nat.le_refl _) (by decide)).mono ?_
  rintro e w9 ⟨rfl, hb9⟩
  have q9 := (hb9.block T (by omega)).trans HQ7.out
  have c0 := cell_of_row _ T 1 _ _ _ q9
  have HB9 := hid (HB7.out.trans (hb9.mono (by omega)))
  clear hb9
  go_wp2_with fail
  go_ret
  exact ⟨rfl, HB9.out⟩
end Go.Proofs.Ytcaepgggffkjpaa.Cmn
