/-
  arwrite: Write.
  arwrite's reference: part.
-/
import Derived.Test.YtpedngfmjhpojaaGreatDoorZWj
namespace Go.Proofs.YtpedngfmjhpojaaGreatDoor.Arw
open Go.RowKit Go.Proofs Go.Proofs.YtpedngfmjhpojaaGreatDoor.Byt Go.Proofs.YtpedngfmjhpojaaGreatDoor.Dec Go.Proofs.YtpedngfmjhpojaaGreatDoor.Lnm Go.Proofs.YtpedngfmjhpojaaGreatDoor.Hdr Go.Proofs.YtpedngfmjhpojaaGreatDoor.Arp
open Go.Proofs.YtpedngfmjhpojaaGreatDoor.Sls (Fr blk)

theorem flat_bound {M : Nat} : ∀ {ps : List Mem}, (∀ x ∈ ps, (ptl x).length ≤ M) → (flat ps).length ≤ ps.length * M
  | [], _ => by simp [flat]
  | x :: r, h => by
    have h1 := flat_bound (ps := r) fun y hy => h y (List.mem_cons_of_mem _ hy)
    have h2 := h x List.mem_cons_self
    have e : flat (x :: r) = ptl x ++ flat r := by simp [flat]
    rw [e, List.length_append, List.length_cons, Nat.succ_mul]
    omega
theorem body_mem {xs : List Mem} (hfit : ∀ x ∈ xs, fitsM x = 0) (hn : xs.length ≤ 20) {y : Mem} (hy : y ∈ bodyP xs) : ∃ (k : Nat) (hk : k < xs.length), y = setN (fld ((nms xs).take k) xs[k].name) xs[k] ∧ herr y = 0 ∧ y.name.size ≤ 16 := by
  obtain ⟨k, hk, rfl⟩ := List.mem_iff_getElem.1 hy
  have hk' : k < xs.length := by rw [bodyP_length hfit] at hk; exact hk
  refine ⟨k, hk', bodyP_at hfit hk', ?_⟩
  rw [bodyP_at hfit hk']
  refine ⟨herr_body hfit (by omega) hk', ?_⟩
  have hv := (fitsM_zero (hfit xs[k] (List.getElem_mem hk'))).1
  have hal : allV ((nms xs).take k) = true := allV_iff.2 fun n hm => allV_iff.1 (nms_allV hfit) n (List.mem_of_mem_take hm)
  have hl := tabl_len hal (k := 100) (by rw [List.length_take]; simp [nms]; omega)
  have := (nameOk_iff.1 (fld_ok (pre := (nms xs).take k) hv (by omega)).1).2.1
  exact this
/-- The parts of small members are small. -/
theorem parts_len {hm : Bool} {md : List UInt8} {xs : List Mem} (hfit : ∀ x ∈ xs, fitsM x = 0) (hn : xs.length ≤ 20) (hok : ∀ x ∈ xs, MOk x) (hl : ∀ x ∈ xs, x.data.length = x.len) (hmd : md.length ≤ 20000) :
    (flat (mapP hm none md.length 0 md)).length ≤ 20061 ∧ (flat (tabP none (bo (nms xs)).length 0 (bo (nms xs)))).length ≤ 5201 ∧ (flat (bodyP xs)).length ≤ 21220 := by
  refine ⟨?_, ?_, ?_⟩
  · cases hm
    · simp [mapP, flat]
    · show (flat [_]).length ≤ 20061
      rw [flat_one, (ptl_len (x := mpt none md.length 0 md) (herr_map (by omega)) rfl).2]
      show 60 + md.length + md.length % 2 ≤ 20061
      omega
  · have hb := bo_len (nms xs)
    have hnl : (nms xs).length = xs.length := by simp [nms]
    unfold tabP
    split
    · simp [flat]
    · rw [flat_one, (ptl_len (x := tpt none (bo (nms xs)).length 0 (bo (nms xs))) (herr_tab (by omega)) rfl).2]
      show 60 + (bo (nms xs)).length + (bo (nms xs)).length % 2 ≤ 5201
      omega
  · have := flat_bound (M := 1061) (ps := bodyP xs) fun y hy => by
      obtain ⟨k, hk, e, he, _⟩ := body_mem hfit hn hy
      have h1 : y.len = xs[k].len := by rw [e]; rfl
      have h2 : y.data = xs[k].data := by rw [e]; rfl
      have h3 := (hok xs[k] (List.getElem_mem hk)).len
      rw [(ptl_len he (by rw [h1, h2]; exact hl _ (List.getElem_mem hk))).2]
      omega
    rw [bodyP_length hfit] at this
    omega
theorem arch_len {hm : Bool} {md : List UInt8} {xs : List Mem} (hfit : ∀ x ∈ xs, fitsM x = 0) (hn : xs.length ≤ 20) (hok : ∀ x ∈ xs, MOk x) (hl : ∀ x ∈ xs, x.data.length = x.len) (hmd : md.length ≤ 20000) : (arch hm md xs).length ≤ 50000 := by
  obtain ⟨h1, h2, h3⟩ := parts_len (hm := hm) hfit hn hok hl hmd
  unfold arch
  rw [List.length_append, List.length_append, List.length_append]
  have : Arp.magic.length = 8 := rfl
  omega

/-- What Write gives. -/
def wout (hm : Bool) (md : List UInt8) (xs : List Mem) : List UInt8 := if (fitL 0 xs).2 = 0 then arch hm md xs else []
def Writes (hm : Bool) (md : List UInt8) (xs : List Mem) (w : World) (e : Ending) (w' : World) : Prop :=
  ∃ v, e = .returned (.tuple #[v, .int .i64 (fitL 0 xs).2]) ∧ Byt.Own w' w.heap.size v (wout hm md xs).length (wout hm md xs) ∧ Below w.heap.size w w'

theorem prd_below {w : World} {v : Value} {B K : Nat} {x : Mem} (hr : Byt.Rd w K x.ptr x.len x.data) (hK : K ≤ B) (hB : B < w.heap.size) (hv : ∀ k, blk v = some k → K ≤ k) (ho : POk x) : PRd w v B x := by
  refine ⟨hr.more (by omega), fun a hn e => ?_, ho⟩
  obtain ⟨b, o, e2, hl, _⟩ := hr.2 0 (by rw [hr.1]; exact hn)
  rw [e] at e2
  injection e2 with e2
  subst e2
  exact ⟨by show b ≠ B; omega, fun q => by have := hv _ q; simp only at this; omega⟩
theorem prd_above {w : World} {v : Value} {B K : Nat} {x : Mem} (hr : Byt.Own w K (.slice x.ptr x.len x.cap) x.len x.data) (hK : B < K) (hv : ∀ k, blk v = some k → k < K) (ho : POk x) : PRd w v B x := by
  obtain ⟨A, c, e, hrd, _⟩ := hr.reads
  injection e with e1 _ e3
  rw [← e1] at hrd
  refine ⟨hrd, fun a _ e => ?_, ho⟩
  have h1 : K ≤ a.block := hr.blk_ge (k := a.block) (by rw [e]; rfl)
  exact ⟨by omega, fun q => by have := hv _ q; omega⟩

set_option linter.unusedSimpArgs false in
set_option maxRecDepth 100000 in
set_option maxHeartbeats 4000000 in
theorem write_any (hm : Bool) (mA : Option Addr) (mn mc : Nat) (md : List UInt8) (Km K : Nat) (A : Option Addr) (n c : Nat) (xs : List Mem) (w : World) (hg : GndP w) (hmd : Byt.Rd w Km mA mn md) (hKm : Km ≤ w.heap.size) (hmn : mn ≤ 20000) (h : RdM w K A n xs) (hK : K ≤ w.heap.size) (hok : ∀ x ∈ xs, MOk x) (hn : n ≤ 20) :
    Calls Tryz.prog 28 #[.bool hm, .slice mA mn mc, .slice A n c] w (Writes hm md xs w) := by
  have Hl := hid h.1
  have Hg := hid hg
  have Hmd := hid hmd
  clear hg hmd
  go_enter Tryz.func28, Tryz.ntmps28
  go_wp2_with fail
  refine (fits5_any K A n c xs w h hK hok (by omega)).mono ?_
  rintro e w1 ⟨rfl, hb1⟩
  obtain ⟨f1, f2, hf⟩ : ∃ f1 f2, fitL 0 xs = (f1, f2) := ⟨_, _, rfl⟩
  have HF := hid hf
  rw [hf]
  by_cases hz : f2 = 0
  · subst hz
    have hfit := (fitL_zero 0 xs).1 (by rw [hf])
    have Hfit := hid hfit
    clear hf hfit
    have hs1 := hb1.size
    have kc := Lib.run_convert_bytes_const (P := Tryz.prog) w1 23 5 #[.int .u8 33, .int .u8 60, .int .u8 97, .int .u8 114, .int .u8 99, .int .u8 104, .int .u8 62, .int .u8 10] 8 8 Tryz.underlying23 Tryz.underlying5
    have hr1 := heap_alloc_new w1 (.cells #[.int .u8 33, .int .u8 60, .int .u8 97, .int .u8 114, .int .u8 99, .int .u8 104, .int .u8 62, .int .u8 10] 5 (8, 9))
    have ho2 : Byt.Own (w1.alloc (.cells #[.int .u8 33, .int .u8 60, .int .u8 97, .int .u8 114, .int .u8 99, .int .u8 104, .int .u8 62, .int .u8 10] 5 (8, 9))) w.heap.size (.slice (some ⟨w1.heap.size, 0, none⟩) 8 8) 8 Arp.magic :=
      ⟨rfl, .inr ⟨w1.heap.size, 8, _, (8, 9), rfl, hs1, hr1, Nat.le_refl _, by unfold maxLen; omega, rfl, rfl, fun j hj => by simp only; omega⟩⟩
    have hb2 : Below w.heap.size w (w1.alloc (.cells #[.int .u8 33, .int .u8 60, .int .u8 97, .int .u8 114, .int .u8 99, .int .u8 104, .int .u8 62, .int .u8 10] 5 (8, 9))) := hb1.alloc hs1 _
    have hs2 : (w1.alloc (.cells #[.int .u8 33, .int .u8 60, .int .u8 97, .int .u8 114, .int .u8 99, .int .u8 104, .int .u8 62, .int .u8 10] 5 (8, 9))).heap.size = w1.heap.size + 1 := World.size_alloc _ _
    have hrow3 := heap_alloc_new (w1.alloc (.cells #[.int .u8 33, .int .u8 60, .int .u8 97, .int .u8 114, .int .u8 99, .int .u8 104, .int .u8 62, .int .u8 10] 5 (8, 9))) (.cells #[.slice (some ⟨w1.heap.size, 0, none⟩) 8 8] 116)
    have ho3 := ho2.alloc (.cells #[.slice (some ⟨w1.heap.size, 0, none⟩) 8 8] 116)
    have hb3 := hb2.alloc hb2.size (.cells #[.slice (some ⟨w1.heap.size, 0, none⟩) 8 8] 116)
    have hs3 : ((w1.alloc (.cells #[.int .u8 33, .int .u8 60, .int .u8 97, .int .u8 114, .int .u8 99, .int .u8 104, .int .u8 62, .int .u8 10] 5 (8, 9))).alloc (.cells #[.slice (some ⟨w1.heap.size, 0, none⟩) 8 8] 116)).heap.size = w1.heap.size + 2 := by rw [World.size_alloc, hs2]
    rw [hs2] at hrow3
    clear hr1 ho2 hb2 hs2
    go_upto_region 5 with fail
    generalize (w1.alloc (.cells #[.int .u8 33, .int .u8 60, .int .u8 97, .int .u8 114, .int .u8 99, .int .u8 104, .int .u8 62, .int .u8 10] 5 (8, 9))).alloc (.cells #[.slice (some ⟨w1.heap.size, 0, none⟩) 8 8] 116) = w3 at *
    generalize w1.heap.size = g at *
    clear kc hb1
    go_wp2_with fail
    refine (parts_any hm mA mn mc md K A n c xs w3 (Hg.out.on hb3) (h.below (hb3.mono hK)) (by omega) hok hn Hfit.out).mono ?_
    rintro e w4 ⟨AP, cP, At, ct, rfl, oP, oT, hb4⟩
    have hrow4 := (hb4.block (g + 1) (by omega)).trans hrow3
    have ho4 := ho3.below hb4
    have hb04 := hb3.trans (hb4.mono (by omega))
    have hsz4 := hb4.size
    have h4 := h.below (hb04.mono hK)
    have hl4 : ∀ x ∈ xs, x.data.length = x.len := fun x hx => by
      obtain ⟨k, hk, rfl⟩ := List.mem_iff_getElem.1 hx
      exact (h4.2 k hk).2.1.1
    have hn' : xs.length ≤ 20 := by have := Hl.out; omega
    have hmdl : md.length = mn := Hmd.out.1
    have hPL := parts_len (hm := hm) Hfit.out hn' hok hl4 (by omega : md.length ≤ 20000)
    have hx4 : ∀ x ∈ mapP hm mA mn mc md ++ (tabP At (bo (nms xs)).length ct (bo (nms xs)) ++ bodyP xs), PRd w4 (.slice (some ⟨g, 0, none⟩) 8 8) (g + 1) x := fun x hx => by
      rw [List.mem_append, List.mem_append] at hx
      rcases hx with hx | hx | hx
      · have hh : hm = true := by cases hm; (· simp [mapP] at hx); rfl
        subst hh
        obtain rfl : x = mpt mA mn mc md := by simpa [mapP] using hx
        exact prd_below (K := w.heap.size) ((Hmd.out.below (hb04.mono hKm)).more hKm) (by omega) (by omega) (fun k e => by injection e with e; simp only at e; omega) ⟨herr_map (by omega), by show (1 : Nat) ≤ 1000; decide, by show mn ≤ 100000; omega, by show (0 : Int) < _; decide, by show (0 : Int) < _; decide, by show (0 : Int) < _; decide, by show (0 : Int) < _; decide⟩
      · have hb := bo_len (nms xs)
        have hnl : (nms xs).length = xs.length := by simp [nms]
        have hx' : x = tpt At (bo (nms xs)).length ct (bo (nms xs)) := by
          unfold tabP at hx
          split at hx
          · simp at hx
          · simpa using hx
        subst hx'
        exact prd_above (K := w3.heap.size) oT (by omega) (fun k e => by injection e with e; simp only at e; omega) ⟨herr_tab (by omega), by show (2 : Nat) ≤ 1000; decide, by show (bo (nms xs)).length ≤ 100000; omega, by show (0 : Int) < _; decide, by show (0 : Int) < _; decide, by show (0 : Int) < _; decide, by show (0 : Int) < _; decide⟩
      · obtain ⟨k, hk, e, he, hnm⟩ := body_mem Hfit.out hn' hx
        have hmk := hok xs[k] (List.getElem_mem hk)
        have hrd := (h4.2 k hk).2.1
        have e1 : x.ptr = xs[k].ptr := by rw [e]; rfl
        have e2 : x.len = xs[k].len := by rw [e]; rfl
        have e3 : x.data = xs[k].data := by rw [e]; rfl
        have e4 : x.time = xs[k].time := by rw [e]; rfl
        have e5 : x.uid = xs[k].uid := by rw [e]; rfl
        have e6 : x.gid = xs[k].gid := by rw [e]; rfl
        have e7 : x.mode = xs[k].mode := by rw [e]; rfl
        refine prd_below (K := w.heap.size) (by rw [e1, e2, e3]; exact hrd.more hK) (by omega) (by omega) (fun k e => by injection e with e; simp only at e; omega) ⟨he, by omega, by have := hmk.len; omega, by rw [e4]; exact hmk.t, by rw [e5]; exact hmk.u, by rw [e6]; exact hmk.g, by rw [e7]; exact hmk.m⟩
    have hflat : flat (mapP hm mA mn mc md ++ (tabP At (bo (nms xs)).length ct (bo (nms xs)) ++ bodyP xs)) = flat (mapP hm none mn 0 md) ++ (flat (tabP none (bo (nms xs)).length 0 (bo (nms xs))) ++ flat (bodyP xs)) := by
      rw [flat_append, flat_append, flat_mapP, flat_tabP]
    have hA4 : Apt (mapP hm mA mn mc md ++ (tabP At (bo (nms xs)).length ct (bo (nms xs)) ++ bodyP xs)).length AP (.slice (some ⟨g, 0, none⟩) 8 8) (g + 1) := fun a _ e => by
      have h1 : w3.heap.size ≤ a.block := by
        rcases oP.2 with ⟨q, _⟩ | ⟨g', _, _, _, q, hg', _⟩
        · injection q with q; rw [e] at q; cases q
        · injection q with q; rw [e] at q; injection q with q; subst q; exact hg'
      exact ⟨by omega, fun q => by injection q with q; simp only at q; omega⟩
    have hfl : 8 + (flat (mapP hm mA mn mc md ++ (tabP At (bo (nms xs)).length ct (bo (nms xs)) ++ bodyP xs))).length ≤ 400000 := by
      rw [hflat, List.length_append, List.length_append]
      rw [hmdl] at hPL
      omega
    have hpn : (mapP hm mA mn mc md ++ (tabP At (bo (nms xs)).length ct (bo (nms xs)) ++ bodyP xs)).length ≤ 100 := by
      rw [List.length_append, List.length_append, bodyP_length Hfit.out]
      have h1 : (mapP hm mA mn mc md).length ≤ 1 := by unfold mapP; split <;> simp
      have h2 : (tabP At (bo (nms xs)).length ct (bo (nms xs))).length ≤ 1 := by unfold tabP; split <;> simp
      omega
    have HW : Hid (wout hm md xs = Arp.magic ++ flat (mapP hm mA mn mc md ++ (tabP At (bo (nms xs)).length ct (bo (nms xs)) ++ bodyP xs))) := hid (by
      unfold wout arch
      rw [HF.out, if_pos rfl, hflat, hmdl])
    clear hflat hPL oT hb3 hrow3 ho3 hmdl hl4 h4
    generalize mapP hm mA mn mc md ++ (tabP At (bo (nms xs)).length ct (bo (nms xs)) ++ bodyP xs) = ps at *
    go_wp2_with fail
    refine (eachPart_any w.heap.size (g + 1) _ 8 Arp.magic AP ps.length cP ps w4 hrow4 (by omega) ho4 (RdP.of oP) hA4 hx4 (by omega) hfl).mono ?_
    rintro e w5 ⟨rfl, v5, hrow5, ho5, hf5⟩
    obtain ⟨A5, c5, rfl, _⟩ := ho5.reads
    have b5 := cell_of_row w5 (g + 1) 0 _ _ _ hrow5
    go_wp2_with fail
    go_ret2
    refine ⟨.slice A5 (8 + (flat ps).length) c5, by rw [HF.out]; rfl, ?_, hb04.trans hf5.below⟩
    rw [HW.out, show (Arp.magic ++ flat ps).length = 8 + (flat ps).length by rw [List.length_append]; rfl]
    exact ho5
  · have HW : Hid (wout hm md xs = []) := hid (by unfold wout; rw [HF.out, if_neg hz])
    clear hf
    go_wp2_with fail
    go_ret2
    refine ⟨.slice none 0 0, by rw [HF.out]; rfl, ?_, hb1⟩
    rw [HW.out]
    exact Byt.Own.nil _ _
end Go.Proofs.YtpedngfmjhpojaaGreatDoor.Arw

namespace Go.Proofs.YtpedngfmjhpojaaGreatDoor.Arw
open Go.RowKit Go.Proofs Go.Proofs.YtpedngfmjhpojaaGreatDoor.Byt Go.Proofs.YtpedngfmjhpojaaGreatDoor.Dec Go.Proofs.YtpedngfmjhpojaaGreatDoor.Lnm Go.Proofs.YtpedngfmjhpojaaGreatDoor.Hdr Go.Proofs.YtpedngfmjhpojaaGreatDoor.Arp
open Go.Proofs.YtpedngfmjhpojaaGreatDoor.Sls (Fr blk)

set_option linter.unusedSimpArgs false in
set_option maxRecDepth 100000 in
set_option maxHeartbeats 4000000 in
theorem rpart_any (s : ByteArray) (t u g m z : Int) (K : Nat) (A : Option Addr) (n c : Nat) (d : List UInt8) (w : World) (hr : Byt.Rd w K A n d) (hK : K ≤ w.heap.size) (hn : n ≤ 90000) (hs : s.size ≤ 1000) (l0 : t < 9223372036854775808) (l1 : u < 9223372036854775808) (l2 : g < 9223372036854775808) (l3 : m < 9223372036854775808) :
    Calls Tryz.prog 48 #[.agg #[.string s, .int .i64 t, .int .i64 u, .int .i64 g, .int .i64 m, .int .i64 z], .slice A n c] w fun e w' => ∃ v, e = .returned v ∧ Byt.Own w' w.heap.size v (mkp s (num t u g m (n : Int)) d).length (mkp s (num t u g m (n : Int)) d) ∧ Below w.heap.size w w' := by
  have hdl := hr.1
  have He := hid fun W => rencode_any s t u g m (n : Int) W (by omega) l0 l1 l2 l3 (by omega)
  unfold Encodes at He
  have Hp : Hid (mkp s (num t u g m (n : Int)) d = eout s (num t u g m (n : Int)) ++ d ++ (if n % 2 = 1 then [10] else [])) := hid (by unfold mkp; rw [hdl])
  have Hel := hid (eout_length s (num t u g m (n : Int)))
  generalize mkp s (num t u g m (n : Int)) d = L at *
  generalize eout s (num t u g m (n : Int)) = eb at *
  generalize eerr s (num t u g m (n : Int)) = ee at *
  have hb0 := (Below.refl w.heap.size w).alloc (Nat.le_refl _) (.cells #[.string s, .int .i64 t, .int .i64 u, .int .i64 g, .int .i64 m, .int .i64 (n : Int)] 100)
  have hrow := heap_alloc_new w (.cells #[.string s, .int .i64 t, .int .i64 u, .int .i64 g, .int .i64 m, .int .i64 (n : Int)] 100)
  go_enter Tryz.func48, Tryz.ntmps48
  go_upto_region 2 with fail
  generalize w.alloc (.cells #[.string s, .int .i64 t, .int .i64 u, .int .i64 g, .int .i64 m, .int .i64 (n : Int)] 100) = w0 at *
  have c0 := cell_of_row _ w.heap.size 0 _ _ _ hrow
  have c1 := cell_of_row _ w.heap.size 1 _ _ _ hrow
  have c2 := cell_of_row _ w.heap.size 2 _ _ _ hrow
  have c3 := cell_of_row _ w.heap.size 3 _ _ _ hrow
  have c4 := cell_of_row _ w.heap.size 4 _ _ _ hrow
  have c5 := cell_of_row _ w.heap.size 5 _ _ _ hrow
  have hs0 := hb0.size
  go_wp2_with fail
  refine (He.out _).mono ?_
  rintro e w1 ⟨v1, rfl, o1, hb1⟩
  obtain ⟨A1, k1, rfl, r1, _⟩ := o1.reads
  have hb01 := hb0.trans (hb1.mono hs0)
  have hs1 := hb01.size
  clear c0 c1 c2 c3 c4 c5 hrow o1
  go_wp2_with fail
  refine (Byt.add_any w1.heap.size K A1 A eb.length k1 n c eb d w1 r1 (hr.below (hb01.mono hK)) (Nat.le_refl _) (by omega) (by have := Hel.out; omega) (by omega)).mono ?_
  rintro e w2 ⟨v2, rfl, o2, hb2⟩
  obtain ⟨A2, k2, rfl, _⟩ := o2.reads
  have hb02 := hb01.trans (hb2.mono hs1)
  replace o2 := o2.more hs1
  have hel := Hel.out
  clear hb0 hb1 hb2 hs0 r1 hb01
  by_cases hodd : n % 2 = 1
  · have e1 : (n : Int).tmod 2 = 1 := by have : (n : Int).tmod 2 = ((n % 2 : Nat) : Int) := rfl; rw [this, hodd]; rfl
    have e2 : IntKind.i64.wrap 1 = 1 := by decide
    have HP : Hid (L = eb ++ d ++ [10]) := hid (by rw [Hp.out, if_pos hodd])
    clear hodd Hp
    go_wp2_with (at_builtin; go_must (refine Byt.wpList_push w2 w.heap.size (.slice A2 (eb.length + n) k2) (eb.length + n) _ 10 _ rfl o2 hb02.size (by omega) rfl (.tmp 22) (.tmp 23) rfl rfl rfl ?_); intro v3 w3 o3 hb3; obtain ⟨A3, k3, rfl, _⟩ := o3.reads)
    go_ret
    have hl : L.length = eb.length + n + 1 := by rw [HP.out, List.length_append, List.length_append, hdl]; rfl
    refine ⟨_, rfl, ?_, hb02.trans hb3⟩
    rw [hl, HP.out]
    exact o3
  · have h0 : n % 2 = 0 := by omega
    have e1 : (n : Int).tmod 2 = 0 := by have : (n : Int).tmod 2 = ((n % 2 : Nat) : Int) := rfl; rw [this, h0]; rfl
    have e2 : IntKind.i64.wrap 0 = 0 := by decide
    have HP : Hid (L = eb ++ d) := hid (by rw [Hp.out, if_neg hodd, List.append_nil])
    clear hodd Hp h0
    go_wp2_with fail
    go_ret
    have hl : L.length = eb.length + n := by rw [HP.out, List.length_append, hdl]
    refine ⟨_, rfl, ?_, hb02⟩
    rw [hl, HP.out]
    exact o2
end Go.Proofs.YtpedngfmjhpojaaGreatDoor.Arw
