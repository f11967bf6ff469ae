/-
  symindex: what its functions give, as the laws take it; few members as an argument.
  The laws of symindex: awake.
-/
import Derived.Test.YtpedngfmjhpojaaGreatDoorZSc
import Derived.Test.YtpedngfmjhpojaaGreatDoorZWs
import Derived.Test.YtpedngfmjhpojaaGreatDoorZWp
import Derived.Test.YtpedngfmjhpojaaGreatDoorZAh
namespace Go.Proofs.YtpedngfmjhpojaaGreatDoor.Six
open Go.RowKit Go.Proofs Go.Proofs.YtpedngfmjhpojaaGreatDoor.Byt
open Go.Proofs.YtpedngfmjhpojaaGreatDoor.Sls (Oth)
open Go.Proofs.YtpedngfmjhpojaaGreatDoor.Lnm (GndP)
open Go.Proofs.YtpedngfmjhpojaaGreatDoor.Arp (Mem RdM)
open Go.Proofs.YtpedngfmjhpojaaGreatDoor.Arw (fitL ints RdM0 fewM fewM_iff core lens MOk)
open Go.Proofs.YtpedngfmjhpojaaGreatDoor.Amp (En ecells encA fitA szS enOk_iff fitA_iff RdE)
open Go.Proofs.YtpedngfmjhpojaaGreatDoor.Frame (MB)

/-- Few members, as an argument. -/
structure Arg8 (w : World) (K : Nat) (A : Option Addr) (n : Nat) (xs : List Mem) : Prop where
  g : GndP w
  rd : RdM w K A n xs
  hK : K ≤ w.heap.size
  few : Few xs
  cap : ∀ x ∈ xs, x.len ≤ x.cap ∧ x.cap ≤ maxLen
theorem Arg8.on {w w' : World} {K n : Nat} {A : Option Addr} {xs : List Mem} (h : Arg8 w K A n xs) (hb : Below w.heap.size w w') : Arg8 w' K A n xs :=
  ⟨h.g.on hb, h.rd.below (hb.mono h.hK), Nat.le_trans h.hK hb.size, h.few, h.cap⟩
theorem Arg8.n20 {w : World} {K n : Nat} {A : Option Addr} {xs : List Mem} (h : Arg8 w K A n xs) : n ≤ 20 := by rw [← h.rd.1]; exact h.few.n
/-- What came in is few. -/
theorem arg8_of {w w' : World} {A : Option Addr} {n : Nat} {xs : List Mem} (hG : GndP w') (h : RdM0 w w.heap.size A n xs) (hb : Below w.heap.size w w') (hB : ∀ x ∈ xs, MB x) (hf : fewM xs = true) : Arg8 w' w.heap.size A n xs := by
  obtain ⟨h1, h2, h3⟩ := fewM_iff.1 hf
  have hd : ∀ x ∈ xs, x.data.length = x.len := fun x hx => by
    obtain ⟨k, hk, rfl⟩ := List.mem_iff_getElem.1 hx
    exact (h.2 k hk).2.1
  exact ⟨hG, (h.to fun x hx => (h3 x hx).2).below hb, hb.size, ⟨h1, fun x hx => (hB x hx).ok (h3 x hx).1 (h3 x hx).2, hd, h2⟩, fun x hx => (hB x hx).cap⟩

/-- The member at an offset. -/
def atO (xs : List Mem) (at_ : Int) : Option Nat := (oOut xs).findIdx? fun (o : Nat) => decide ((o : Int) = at_)
def atI (xs : List Mem) (at_ : Int) : Int := ((atO xs at_).getD 0 : Nat)
def atB (xs : List Mem) (at_ : Int) : Bool := (atO xs at_).isSome
/-- What Complete, Index and At give. -/
def Cmp (xs : List Mem) (w : World) (e : Ending) (w' : World) : Prop :=
  ∃ v, e = .returned (.tuple #[v, .int .i64 (fitL 0 xs).2]) ∧ Byt.Own w' w.heap.size v (cOut xs).length (cOut xs) ∧ Below w.heap.size w w'
def Ind (xs : List Mem) (w : World) (e : Ending) (w' : World) : Prop :=
  ∃ A n c, e = .returned (.tuple #[.slice A n c, .int .i64 (fitL 0 xs).2]) ∧ Cel.Own 51 2 w' w.heap.size (.slice A n c) n (ecells (iOut xs)) ∧ Below w.heap.size w w'
theorem Cmp.reads {xs : List Mem} {w w' : World} {e : Ending} (h : Cmp xs w e w') :
    ∃ A n c, e = .returned (.tuple #[.slice A n c, .int .i64 (fitL 0 xs).2]) ∧ n = (cOut xs).length ∧ Byt.Own w' w.heap.size (.slice A n c) n (cOut xs) ∧ Byt.Rd w' w'.heap.size A n (cOut xs) ∧ n ≤ c ∧ c ≤ maxLen ∧ Below w.heap.size w w' := by
  obtain ⟨v, rfl, ho, hb⟩ := h
  obtain ⟨A, c, rfl, hr, hnc, hc⟩ := ho.reads
  exact ⟨A, _, c, rfl, rfl, ho, hr, hnc, hc, hb⟩
theorem Ind.reads {xs : List Mem} {w w' : World} {e : Ending} (h : Ind xs w e w') :
    ∃ A n c, e = .returned (.tuple #[.slice A n c, .int .i64 (fitL 0 xs).2]) ∧ n = (iOut xs).length ∧ RdE w' w'.heap.size A n (iOut xs) ∧ n ≤ c ∧ c ≤ maxLen ∧ Below w.heap.size w w' := by
  obtain ⟨A, n, c, rfl, ho, hb⟩ := h
  obtain ⟨A', c', e1, hr, hnc, hc⟩ := ho.reads
  injection e1 with e11 _ e13
  subst e11 e13
  have := Amp.rde_own ho
  exact ⟨A, n, c, rfl, this.1.symm, this, hnc, hc, hb⟩
theorem RComp.reads {xs : List Mem} {w w' : World} {e : Ending} (h : RComp xs w e w') :
    ∃ A n c A1 n1 c1 A2 n2 c2, e = .returned (.tuple #[.slice A n c, .slice A1 n1 c1, .slice A2 n2 c2, .int .i64 (fitL 0 xs).2]) ∧ n = (cOut xs).length ∧ Byt.Rd w' w'.heap.size A n (cOut xs) ∧ RdE w' w'.heap.size A1 n1 (iOut xs) ∧ Cel.Rd w' w'.heap.size A2 n2 1 (ints (oOut xs)) ∧ Below w.heap.size w w' := by
  obtain ⟨v, A1, n1, c1, A2, n2, c2, rfl, ho, h1, h2, hb⟩ := h
  obtain ⟨A, c, rfl, hr, hnc, hc⟩ := ho.reads
  obtain ⟨_, _, e1, r2, _⟩ := h2.reads
  injection e1 with e11 _ e13
  subst e11 e13
  exact ⟨A, _, c, A1, n1, c1, A2, n2, c2, rfl, rfl, hr, Amp.rde_own h1, r2, hb⟩
/-- The program's functions do what the chapter says. -/
structure PC : Prop where
  complete : ∀ (K : Nat) (A : Option Addr) (n c : Nat) (xs : List Mem) (w : World), Arg8 w K A n xs → Calls Tryz.prog 10 #[.slice A n c] w (Cmp xs w)
  index : ∀ (K : Nat) (A : Option Addr) (n c : Nat) (xs : List Mem) (w : World), Arg8 w K A n xs → Calls Tryz.prog 11 #[.slice A n c] w (Ind xs w)
  at_ : ∀ (K : Nat) (A : Option Addr) (n c : Nat) (xs : List Mem) (z : Int) (w : World), Arg8 w K A n xs → Calls Tryz.prog 12 #[.slice A n c, .int .i64 z] w fun e w' => e = .returned (.tuple #[.int .i64 (atI xs z), .bool (atB xs z)]) ∧ Below w.heap.size w w'
  defs : ∀ (K : Nat) (A : Option Addr) (n c : Nat) (l : List UInt8) (w : World), GndP w → Byt.Rd w K A n l → K ≤ w.heap.size → n ≤ c → c ≤ maxLen → n ≤ 5000 → Calls Tryz.prog 16 #[.slice A n c] w (DefsP l w)

/-! ### how long things are -/
theorem Few.fits {xs : List Mem} (h0 : (fitL 0 xs).2 = 0) : ∀ x ∈ xs, Arw.fitsM x = 0 := (Arw.fitL_zero 0 xs).1 h0
theorem Few.clen {xs : List Mem} (h : Few xs) : (cOut xs).length ≤ 50000 := by
  unfold cOut
  split
  · rename_i h0
    exact Arw.arch_len (Few.fits h0) h.n h.ok h.len (by rw [idx_size]; have := h.names; omega)
  · simp
theorem Few.ilen {xs : List Mem} (h : Few xs) : (iOut xs).length ≤ 1000 := by
  unfold iOut
  split
  · exact h.idx_len
  · simp

/-! ### the same members elsewhere -/
theorem namesM_core : ∀ xs : List Mem, namesM (xs.map core) = namesM xs
  | [] => rfl
  | x :: r => by rw [List.map_cons, namesM_cons, namesM_cons, namesM_core r]; rfl
theorem entsF_core : ∀ (os : List Nat) (xs : List Mem), entsF os (xs.map core) = entsF os xs
  | [], xs => by simp [entsF]
  | o :: os, [] => rfl
  | o :: os, x :: r => by rw [List.map_cons, entsF, entsF, entsF_core os r]; rfl
theorem offF_core (xs : List Mem) : offF (xs.map core) = offF xs := by
  unfold offF hmF
  rw [namesM_core, Arw.base_core, Arw.offL_core]
theorem idx_core (xs : List Mem) : idx (xs.map core) = idx xs := by
  unfold idx
  rw [offF_core, entsF_core]
theorem cOut_core (xs : List Mem) : cOut (xs.map core) = cOut xs := by
  unfold cOut hmF
  rw [Arw.fitL_core, namesM_core, idx_core, Arw.arch_core]
theorem iOut_core (xs : List Mem) : iOut (xs.map core) = iOut xs := by
  unfold iOut
  rw [Arw.fitL_core, idx_core]
theorem oOut_core (xs : List Mem) : oOut (xs.map core) = oOut xs := by
  unfold oOut
  rw [Arw.fitL_core, offF_core]
theorem lens_core (xs : List Mem) : lens (xs.map core) = lens xs := by
  unfold lens
  rw [List.map_map]
  rfl
theorem Few.core {xs ys : List Mem} (h : Few xs) (he : ys.map core = xs.map core) : Few ys := by
  refine ⟨by rw [Arw.core_len he]; exact h.n, Arw.core_mok he h.ok, fun y hy => ?_, by rw [← lens_core, he, lens_core]; exact h.all⟩
  have h1 : Arw.core y ∈ xs.map Arw.core := by rw [← he]; exact List.mem_map_of_mem hy
  obtain ⟨x, hx, e⟩ := List.mem_map.1 h1
  have h2 := h.len x hx
  have e1 : y.data = x.data := (congrArg Mem.data e).symm
  have e2 : y.len = x.len := (congrArg Mem.len e).symm
  rw [e1, e2]
  exact h2
theorem same_out {xs ys : List Mem} (he : ys.map core = xs.map core) : cOut ys = cOut xs ∧ iOut ys = iOut xs ∧ oOut ys = oOut xs ∧ fitL 0 ys = fitL 0 xs := by
  refine ⟨by rw [← cOut_core, he, cOut_core], by rw [← iOut_core, he, iOut_core], by rw [← oOut_core, he, oOut_core], ?_⟩
  rw [← Arw.fitL_core 0 ys, he, Arw.fitL_core]
end Go.Proofs.YtpedngfmjhpojaaGreatDoor.Six

namespace Go.Proofs.YtpedngfmjhpojaaGreatDoor.Six
open Go.RowKit Go.Proofs Go.Proofs.YtpedngfmjhpojaaGreatDoor.Byt
open Go.Proofs.YtpedngfmjhpojaaGreatDoor.Sls (Oth)
open Go.Proofs.YtpedngfmjhpojaaGreatDoor.Lnm (GndP)
open Go.Proofs.YtpedngfmjhpojaaGreatDoor.Arp (Mem RdM)
open Go.Proofs.YtpedngfmjhpojaaGreatDoor.Arw (fitL MOk core)
open Go.Proofs.YtpedngfmjhpojaaGreatDoor.Amp (En RdE ecells)

def fS : Obj.Sy := ⟨⟨#[102]⟩, 1, 0, 0⟩
def gS : Obj.Sy := ⟨⟨#[103]⟩, 3, 0, 1⟩
def hS : Obj.Sy := ⟨⟨#[104]⟩, 2, 0, 0⟩
def awO : List UInt8 := Obj.encO [fS, gS, hS] []
def awT : List UInt8 := [116, 101, 120, 116]
theorem aw_valid : Obj.validO [fS, gS, hS] = true := by decide +kernel
theorem aw_olen : awO.length = 41 := by decide +kernel
theorem aw_odefs : defs awO = [⟨#[102]⟩, ⟨#[104]⟩] := by
  unfold defs awO
  rw [Obj.decO_enc _ _ aw_valid]
  rfl
theorem aw_tdefs : defs awT = [] := by
  have h : (Obj.decO awT).1 = 1 := by decide +kernel
  unfold defs
  rw [Obj.decO_bad awT (by rw [h]; decide)]
  rfl
/-- The members of awake. -/
def mX (p : Option Addr) (c : Nat) : Mem := ⟨⟨#[120]⟩, 0, 0, 0, 0, p, 4, c, awT⟩
def mA (p : Option Addr) (c : Nat) : Mem := ⟨⟨#[97, 46, 111]⟩, 0, 0, 0, 0, p, 41, c, awO⟩
def mZ : Mem := ⟨⟨#[]⟩, 0, 0, 0, 0, none, 0, 0, []⟩
def awL (p : Option Addr) (c : Nat) (q : Option Addr) (d : Nat) : List Mem := [mX p c, mA q d]
theorem aw_names (p q : Option Addr) (c d : Nat) : namesM (awL p c q d) = [⟨#[102]⟩, ⟨#[104]⟩] := by
  show defs awT ++ (defs awO ++ []) = _
  rw [aw_tdefs, aw_odefs]
  rfl
theorem aw_fit (p q : Option Addr) (c d : Nat) : (fitL 0 (awL p c q d)).2 = 0 := by
  have h : (fitL 0 (awL none 0 none 0)).2 = 0 := by decide +kernel
  have e : (awL p c q d).map core = (awL none 0 none 0).map core := rfl
  rw [← Arw.fitL_core 0, e, Arw.fitL_core, h]
theorem aw_off (p q : Option Addr) (c d : Nat) : offF (awL p c q d) = [84, 148] := by
  have hb : Arw.base true 16 (awL none 0 none 0) = 84 := by decide +kernel
  have e : (awL p c q d).map core = (awL none 0 none 0).map core := rfl
  rw [← offF_core, e, offF_core]
  unfold offF hmF
  rw [aw_names]
  show Arw.offL (Arw.base true 16 (awL none 0 none 0)) (awL none 0 none 0) = _
  rw [hb]
  rfl
theorem aw_idx (p q : Option Addr) (c d : Nat) : iOut (awL p c q d) = [⟨⟨#[102]⟩, 148⟩, ⟨⟨#[104]⟩, 148⟩] := by
  unfold iOut
  rw [if_pos (aw_fit p q c d)]
  unfold idx
  rw [aw_off]
  show (defs awT).map _ ++ ((defs awO).map _ ++ _) = _
  rw [aw_tdefs, aw_odefs]
  rfl
theorem aw_at (p q : Option Addr) (c d : Nat) : atI (awL p c q d) 148 = 1 ∧ atB (awL p c q d) 148 = true ∧ atB (awL p c q d) 147 = false := by
  have h : oOut (awL p c q d) = [84, 148] := by
    unfold oOut
    rw [if_pos (aw_fit p q c d), aw_off]
  unfold atI atB atO
  rw [h]
  decide
theorem aw_zero : fitL 0 [mZ] = (0, 6) := by decide +kernel
theorem aw_none : cOut [] = Arp.magic := by decide +kernel
theorem aw_few (p q : Option Addr) (c d : Nat) : Few (awL p c q d) := by
  refine ⟨by show (2 : Nat) ≤ 20; decide, fun x hx => ?_, fun x hx => ?_, by show (45 : Nat) ≤ 5000; decide⟩
  · rcases List.mem_cons.1 hx with rfl | hx
    · exact ⟨by show (1 : Nat) ≤ 300; decide, by show (4 : Nat) ≤ 1000; decide, by show (0 : Int) < _; decide, by show (0 : Int) < _; decide, by show (0 : Int) < _; decide, by show (0 : Int) < _; decide⟩
    · rw [List.mem_singleton.1 hx]
      exact ⟨by show (3 : Nat) ≤ 300; decide, by show (41 : Nat) ≤ 1000; decide, by show (0 : Int) < _; decide, by show (0 : Int) < _; decide, by show (0 : Int) < _; decide, by show (0 : Int) < _; decide⟩
  · rcases List.mem_cons.1 hx with rfl | hx
    · rfl
    · rw [List.mem_singleton.1 hx]
      exact aw_olen
theorem few_zero : Few [mZ] := by
  refine ⟨by decide, fun x hx => ?_, fun x hx => ?_, by decide⟩
  · rw [List.mem_singleton.1 hx]
    exact ⟨by show (0 : Nat) ≤ 300; decide, by show (0 : Nat) ≤ 1000; decide, by show (0 : Int) < _; decide, by show (0 : Int) < _; decide, by show (0 : Int) < _; decide, by show (0 : Int) < _; decide⟩
  · rw [List.mem_singleton.1 hx]
    rfl
theorem few_nil : Few [] := ⟨by decide, by simp, by simp, by decide⟩

theorem rdM_nil (w : World) (K : Nat) : RdM w K none 0 [] := ⟨rfl, fun k hk => absurd hk (by simp)⟩
set_option linter.unusedSimpArgs false in
set_option maxRecDepth 100000 in
set_option maxHeartbeats 16000000 in
theorem awake8_any (P : PC) (w : World) (hg : GndP w) : Calls Tryz.prog 7 #[] w fun e w' => e = .returned (.bool true) ∧ Below w.heap.size w w' := by
  have HP := hid P
  have Hg := hid hg
  have hrow0 := heap_alloc_new w (.cells #[.string ⟨#[102]⟩, .int .i64 1, .int .i64 0, .int .i64 0, .string ⟨#[103]⟩, .int .i64 3, .int .i64 0, .int .i64 1, .string ⟨#[104]⟩, .int .i64 2, .int .i64 0, .int .i64 0] 58)
  have hba := (Below.refl w.heap.size w).alloc (Nat.le_refl _) (.cells #[.string ⟨#[102]⟩, .int .i64 1, .int .i64 0, .int .i64 0, .string ⟨#[103]⟩, .int .i64 3, .int .i64 0, .int .i64 1, .string ⟨#[104]⟩, .int .i64 2, .int .i64 0, .int .i64 0] 58)
  have hsz0 := World.size_alloc w (.cells #[.string ⟨#[102]⟩, .int .i64 1, .int .i64 0, .int .i64 0, .string ⟨#[103]⟩, .int .i64 3, .int .i64 0, .int .i64 1, .string ⟨#[104]⟩, .int .i64 2, .int .i64 0, .int .i64 0] 58)
  have hrs : Obj.RdS _ (w.heap.size + 1) (some ⟨w.heap.size, 0, none⟩) 3 [fS, gS, hS] := Obj.rds_of (Obj.rd_row (cs := Obj.scells [fS, gS, hS]) hrow0 (by omega) rfl) (by intro x hx; simp at hx; rcases hx with rfl | rfl | rfl <;> decide)
  have H1 := hid (Obj.rencode_any (w.heap.size + 1) _ none 3 3 0 0 [fS, gS, hS] [] _ hrs (Rd.nil _ _ _) (by omega) (by omega) (by omega) (by omega))
  clear hg hrow0 hrs
  go_enter Tryz.func7, Tryz.ntmps7
  go_wp2_with fail
  refine H1.out.mono ?_
  rintro e w1 hE
  obtain ⟨A1, n1, c1, rfl, hn1, ho1, r1, hc1, hm1, hb1⟩ := hE.ok aw_valid
  obtain rfl : n1 = 41 := hn1.trans aw_olen
  have B1 := hba.trans (hb1.mono (by omega))
  clear H1 hE hn1 hb1 hba hsz0 ho1
  have kc := Lib.run_convert_bytes_const (P := Tryz.prog) w1 23 5 #[.int .u8 116, .int .u8 101, .int .u8 120, .int .u8 116] 4 4 Tryz.underlying23 Tryz.underlying5
  go_upto_region 3 with fail
  have rT := Rd.lit w1 awT #[.int .u8 116, .int .u8 101, .int .u8 120, .int .u8 116] rfl 4 rfl (4, 5)
  have hbT := (Below.refl w1.heap.size w1).alloc (Nat.le_refl _) (.cells #[.int .u8 116, .int .u8 101, .int .u8 120, .int .u8 116] 5 (4, 5))
  have hsT := World.size_alloc w1 (.cells #[.int .u8 116, .int .u8 101, .int .u8 120, .int .u8 116] 5 (4, 5))
  clear kc
  generalize w1.alloc (.cells #[.int .u8 116, .int .u8 101, .int .u8 120, .int .u8 116] 5 (4, 5)) = wt at *
  have hrM := heap_alloc_new wt (.cells #[.string ⟨#[120]⟩, .int .i64 0, .int .i64 0, .int .i64 0, .int .i64 0, .slice (some ⟨w1.heap.size, 0, none⟩) 4 4, .string ⟨#[97, 46, 111]⟩, .int .i64 0, .int .i64 0, .int .i64 0, .int .i64 0, .slice A1 41 c1] 49)
  have hbM := (Below.refl wt.heap.size wt).alloc (Nat.le_refl _) (.cells #[.string ⟨#[120]⟩, .int .i64 0, .int .i64 0, .int .i64 0, .int .i64 0, .slice (some ⟨w1.heap.size, 0, none⟩) 4 4, .string ⟨#[97, 46, 111]⟩, .int .i64 0, .int .i64 0, .int .i64 0, .int .i64 0, .slice A1 41 c1] 49)
  have hsM := World.size_alloc wt (.cells #[.string ⟨#[120]⟩, .int .i64 0, .int .i64 0, .int .i64 0, .int .i64 0, .slice (some ⟨w1.heap.size, 0, none⟩) 4 4, .string ⟨#[97, 46, 111]⟩, .int .i64 0, .int .i64 0, .int .i64 0, .int .i64 0, .slice A1 41 c1] 49)
  rw [hsT] at hrM
  generalize wt.alloc (.cells #[.string ⟨#[120]⟩, .int .i64 0, .int .i64 0, .int .i64 0, .int .i64 0, .slice (some ⟨w1.heap.size, 0, none⟩) 4 4, .string ⟨#[97, 46, 111]⟩, .int .i64 0, .int .i64 0, .int .i64 0, .int .i64 0, .slice A1 41 c1] 49) = w2 at *
  have rT2 := rT.below (hbM.mono (by omega))
  have rO2 := (r1.below hbT).below (hbM.mono hbT.size)
  have B2 := B1.trans ((hbT.trans (hbM.mono hbT.size)).mono B1.size)
  have hc1' : 41 ≤ c1 := hc1
  have hL : RdM w2 (w1.heap.size + 2) (some ⟨w1.heap.size + 1, 0, none⟩) 2 (awL (some ⟨w1.heap.size, 0, none⟩) 4 A1 c1) := Arw.rdM_row hrM rfl (by omega) (fun x hx => by
    rcases List.mem_cons.1 hx with rfl | hx
    · exact ⟨rT2.more (by omega), by show (4 : Nat) ≤ _; omega⟩
    · rw [List.mem_singleton.1 hx]
      exact ⟨rO2.more (by omega), by show (41 : Nat) ≤ _; omega⟩)
  have aL : Arg8 w2 (w1.heap.size + 2) (some ⟨w1.heap.size + 1, 0, none⟩) 2 (awL (some ⟨w1.heap.size, 0, none⟩) 4 A1 c1) := ⟨Hg.out.on B2, hL, by omega, aw_few _ _ _ _, fun x hx => by
    rcases List.mem_cons.1 hx with rfl | hx
    · exact ⟨Nat.le_refl _, by show (4 : Nat) ≤ maxLen; unfold maxLen; omega⟩
    · rw [List.mem_singleton.1 hx]
      exact ⟨hc1', hm1⟩⟩
  obtain ⟨G, hG⟩ : ∃ G, w1.heap.size = G := ⟨_, rfl⟩
  rw [hG] at aL rO2 ⊢
  have hG2 : G + 2 ≤ w2.heap.size := by omega
  clear rT hbT hsT hrM hbM hsM rT2 hL r1 B1 hG
  have a0 : Arg8 w2 0 none 0 [] := ⟨aL.g, rdM_nil _ _, Nat.zero_le _, few_nil, by simp⟩
  go_wp2_with fail
  refine (HP.out.complete 0 none 0 0 [] w2 a0).mono ?_
  rintro e w3 hC
  obtain ⟨A3, n3, c3, rfl, hn3, hx1, r3, hx3, hx4, hb3⟩ := hC.reads
  clear hx1 hx3 hx4
  rw [aw_none] at r3
  obtain rfl : n3 = 8 := r3.1.symm
  have B3 := B2.trans (hb3.mono B2.size)
  have aL3 := aL.on hb3
  have rO3 := rO2.below (hb3.mono (by omega))
  have hz0 : (fitL 0 ([] : List Mem)).2 = 0 := rfl
  rw [hz0]
  have hs23 := hb3.size
  clear hC hn3 hb3 a0 aL rO2 hz0 B2
  go_wp2_with fail
  refine (HP.out.index _ _ 2 2 _ w3 aL3).mono ?_
  rintro e w4 hI
  obtain ⟨A4, n4, c4, rfl, hn4, r4, hx3, hx4, hb4⟩ := hI.reads
  clear hx3 hx4
  rw [aw_idx] at r4
  rw [aw_fit]
  obtain rfl : n4 = 2 := r4.1.symm
  have B4 := B3.trans (hb4.mono B3.size)
  have aL4 := aL3.on hb4
  have rO4 := rO3.below (hb4.mono (by omega))
  have r34 := r3.below hb4
  have hs34 := hb4.size
  clear hI hn4 hb4 aL3 rO3 r3 B3
  go_wp2_with fail
  refine (HP.out.at_ _ _ 2 2 _ 148 w4 aL4).mono ?_
  rintro e w5 ⟨rfl, hb5⟩
  rw [(aw_at _ _ _ _).1, (aw_at _ _ _ _).2.1]
  have B5 := B4.trans (hb5.mono B4.size)
  have aL5 := aL4.on hb5
  have rO5 := rO4.below (hb5.mono (by omega))
  have r35 := r34.below (hb5.mono (by omega))
  have r45 := r4.below hb5
  have hs45 := hb5.size
  clear hb5 aL4 rO4 r34 r4 B4
  go_wp2_with fail
  refine (HP.out.at_ _ _ 2 2 _ 147 w5 aL5).mono ?_
  rintro e w6 ⟨rfl, hb6⟩
  rw [(aw_at _ _ _ _).2.2]
  generalize atI (awL (some ⟨G, 0, none⟩) 4 A1 c1) 147 = z147 at *
  have B6 := B5.trans (hb6.mono B5.size)
  have hg6 := aL5.g.on hb6
  have rO6 := rO5.below (hb6.mono (by omega))
  have r36 := r35.below (hb6.mono (by omega))
  have r46 := r45.below (hb6.mono (by omega))
  have hs56 := hb6.size
  clear hb6 aL5 rO5 r35 r45 B5
  have hrZ := heap_alloc_new w6 (.cells #[.string ⟨#[]⟩, .int .i64 0, .int .i64 0, .int .i64 0, .int .i64 0, .slice none 0 0] 49)
  have hbZ := (Below.refl w6.heap.size w6).alloc (Nat.le_refl _) (.cells #[.string ⟨#[]⟩, .int .i64 0, .int .i64 0, .int .i64 0, .int .i64 0, .slice none 0 0] 49)
  have hsZ := World.size_alloc w6 (.cells #[.string ⟨#[]⟩, .int .i64 0, .int .i64 0, .int .i64 0, .int .i64 0, .slice none 0 0] 49)
  have aZ : Arg8 _ (w6.heap.size + 1) (some ⟨w6.heap.size, 0, none⟩) 1 [mZ] := ⟨hg6.on hbZ, Arw.rdM_row hrZ rfl (by omega) (fun x hx => by rw [List.mem_singleton.1 hx]; exact ⟨Rd.nil _ _ _, by show (0 : Nat) ≤ _; omega⟩), by omega, few_zero, fun x hx => by rw [List.mem_singleton.1 hx]; exact ⟨Nat.le_refl _, by show (0 : Nat) ≤ _; omega⟩⟩
  have HZ := hid (HP.out.index _ _ 1 1 _ _ aZ)
  clear aZ hrZ
  go_wp2_with fail
  refine HZ.out.mono ?_
  rintro e w7 hI
  obtain ⟨A7, n7, c7, rfl, hx1, hx2, hx3, hx4, hb7⟩ := hI.reads
  clear hx1 hx2 hx3 hx4
  rw [aw_zero]
  have hb67 := hbZ.trans (hb7.mono (by omega))
  have B7 := B6.trans (hb67.mono B6.size)
  have hg7 := hg6.on hb67
  have rO7 := rO6.below (hb67.mono (by omega))
  have r37 := r36.below (hb67.mono (by omega))
  have r47 := r46.below (hb67.mono (by omega))
  have hs67 := hb67.size
  clear HZ hI hb7 hbZ hsZ hb67 hg6 rO6 r36 r46 B6
  go_wp2_with fail
  refine (HP.out.defs _ A1 41 c1 awO w7 hg7 rO7 (by omega) hc1' hm1 (by omega)).mono ?_
  rintro e w8 hD
  obtain ⟨A8, n8, c8, rfl, hn8, hx1, r8, hx3, hx4, hb8⟩ := hD.reads
  rw [aw_odefs] at r8
  obtain rfl : n8 = 2 := r8.1.symm
  clear hD hn8 hx1 hx3 hx4
  have B8 := B7.trans (hb8.mono B7.size)
  have hg8 := hg7.on hb8
  have r38 := r37.below (hb8.mono (by omega))
  have r48 := r47.below (hb8.mono (by omega))
  have hs78 := hb8.size
  have sL := Sls.Rd.lit w8 [⟨#[102]⟩, ⟨#[104]⟩] #[.string ⟨#[102]⟩, .string ⟨#[104]⟩] rfl 2 rfl
  have hbS := (Below.refl w8.heap.size w8).alloc (Nat.le_refl _) (.cells #[.string ⟨#[102]⟩, .string ⟨#[104]⟩] 9)
  have HT := hid (Lnm.texts_any w8.heap.size _ A8 _ 2 c8 2 2 _ _ _ (r8.below hbS) sL (by omega))
  have het : Lnm.eqs [⟨#[102]⟩, ⟨#[104]⟩] [⟨#[102]⟩, ⟨#[104]⟩] = true := by decide +kernel
  rw [het] at HT
  clear hb8 hg7 rO7 r37 r47 B7 het sL
  go_wp2_with fail
  refine HT.out.mono ?_
  rintro e w9 ⟨rfl, m9, hw9⟩
  have hb89 : Below w8.heap.size w8 w9 := by subst hw9; exact hbS.trans (Dec.below_drewN _ m9)
  have B9 := B8.trans (hb89.mono B8.size)
  have hg9 := hg8.on hb89
  have r39 := r38.below (hb89.mono (by omega))
  have r49 := r48.below (hb89.mono (by omega))
  have hs89 := hb89.size
  have kc := Lib.run_convert_bytes_const (P := Tryz.prog) w9 23 5 #[.int .u8 116, .int .u8 101, .int .u8 120, .int .u8 116] 4 4 Tryz.underlying23 Tryz.underlying5
  have rT := Rd.lit w9 awT #[.int .u8 116, .int .u8 101, .int .u8 120, .int .u8 116] rfl 4 rfl (4, 5)
  have hbT := (Below.refl w9.heap.size w9).alloc (Nat.le_refl _) (.cells #[.int .u8 116, .int .u8 101, .int .u8 120, .int .u8 116] 5 (4, 5))
  have hsT := World.size_alloc w9 (.cells #[.int .u8 116, .int .u8 101, .int .u8 120, .int .u8 116] 5 (4, 5))
  have HD := hid (HP.out.defs _ _ 4 4 awT _ (hg9.on hbT) rT (by omega) (Nat.le_refl _) (by unfold maxLen; omega) (by omega))
  clear HT hw9 hb89 hbS r8 hg8 r38 r48 B8
  go_wp2_with fail
  refine HD.out.mono ?_
  rintro e wa hD
  obtain ⟨Aa, na, ca, rfl, hna, hx1, ra, hx3, hx4, hba⟩ := hD.reads
  rw [aw_tdefs] at ra
  obtain rfl : na = 0 := ra.1.symm
  clear hD hna hx1 ra hx3 hx4 HD kc rT
  have hb9a := hbT.trans (hba.mono (by omega))
  have Ba := B9.trans (hb9a.mono B9.size)
  have r3a := r39.below (hb9a.mono (by omega))
  have r4a := r49.below (hb9a.mono (by omega))
  have hs9a := hb9a.size
  clear hba hbT hsT hb9a hg9 r39 r49 B9
  go_wp2_with fail
  refine (Arw.rmagic_own wa).mono ?_
  rintro e wb ⟨Ab, cb, rfl, ob, hbb⟩
  obtain ⟨_, _, e1, rb, _⟩ := ob.reads
  injection e1 with e11 _ e13
  subst e11 e13
  have Bb := Ba.trans (hbb.mono Ba.size)
  have r3b := r3a.below (hbb.mono (by omega))
  have r4b := r4a.below (hbb.mono (by omega))
  have hsab := hbb.size
  clear hbb r3a r4a Ba ob
  go_wp2_with fail
  refine (Dec.same_any 13 rfl w3.heap.size wb.heap.size A3 Ab 8 c3 8 cb _ _ wb r3b rb (by omega)).mono ?_
  rintro e wc ⟨rfl, mc, hwc⟩
  rw [beq_self_eq_true]
  have hbc : Below wb.heap.size wb wc := by subst hwc; exact Dec.below_drewN wb mc
  have Bc := Bb.trans (hbc.mono Bb.size)
  have r4c := r4b.below (hbc.mono (by omega))
  have hsbc := hbc.size
  have hrE := heap_alloc_new wc (.cells #[.string ⟨#[102]⟩, .int .i64 148, .string ⟨#[104]⟩, .int .i64 148] 51)
  have hbE := (Below.refl wc.heap.size wc).alloc (Nat.le_refl _) (.cells #[.string ⟨#[102]⟩, .int .i64 148, .string ⟨#[104]⟩, .int .i64 148] 51)
  have hsE := World.size_alloc wc (.cells #[.string ⟨#[102]⟩, .int .i64 148, .string ⟨#[104]⟩, .int .i64 148] 51)
  have rE : RdE _ (wc.heap.size + 1) (some ⟨wc.heap.size, 0, none⟩) 2 [⟨⟨#[102]⟩, 148⟩, ⟨⟨#[104]⟩, 148⟩] := Amp.rde_cel (Obj.rd_row (cs := ecells [⟨⟨#[102]⟩, 148⟩, ⟨⟨#[104]⟩, 148⟩]) hrE (by omega) rfl)
  have HE := hid (Amp.rsameE_any (wc.heap.size + 1) A4 _ 2 c4 2 2 _ _ _ ((r4c.below (hbE.mono (by omega))).more (by omega)) rE (by omega) (by omega))
  rw [Amp.sameE_eq.2 rfl] at HE
  clear hwc hbc r3b r4b Bb rb hrE rE r4c
  go_wp2_with fail
  refine HE.out.mono ?_
  rintro e wd ⟨rfl, hbd⟩
  have Bd := Bc.trans ((hbE.trans (hbd.mono (by omega))).mono Bc.size)
  clear HE hbd hbE hsE Bc
  go_wp2_with fail
  go_ret
  exact ⟨rfl, Bd⟩
end Go.Proofs.YtpedngfmjhpojaaGreatDoor.Six
