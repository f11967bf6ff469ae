/-
  arwrite: Write.
  arwrite's reference: part.
-/
import Derived.Test.YtjobmkodgodloaaGreatDoorYWf
namespace Go.Proofs.YtjobmkodgodloaaGreatDoor.Arw
open Go.RowKit Go.Proofs Go.Proofs.YtjobmkodgodloaaGreatDoor.Byt Go.Proofs.YtjobmkodgodloaaGreatDoor.Dec Go.Proofs.YtjobmkodgodloaaGreatDoor.Lnm Go.Proofs.YtjobmkodgodloaaGreatDoor.Hdr Go.Proofs.YtjobmkodgodloaaGreatDoor.Arp
open Go.Proofs.YtjobmkodgodloaaGreatDoor.Sls (Fr blk)

theorem flat_bound {M : Nat} : ∀ {ps : List Mem}, (∀ x ∈ ps, (ptl x).length ≤ M) → (flat ps).length ≤ ps.length * M
 | [], _ => by simp [flat]
 | x :: r, h => by
   have h1 := flat_bound (ps := r) fun y hy => h y (List.mem_cons_of_mem _ hy)
   have h2 := h x List.mem_cons_self
   have e : flat (x :: r) = ptl x ++ flat r := by simp [flat]
   rw [e, List.length_append, List.length_cons, Nat.succ_mul]
   omega
theorem body_mem {xs : List Mem} (hfit : ∀ x ∈ xs, fitsM x = 0) (hn : xs.length ≤ 20) {y : Mem} (hy : y ∈ bodyP xs) : ∃ (k : Nat) (hk : k < xs.length), y = setN (fld ((nms xs).take k) xs[k].name) xs[k] ∧ herr y = 0 ∧ y.name.size ≤ 16 := by
 obtain ⟨k, hk, rfl⟩ := List.mem_iff_getElem.1 hy
 have hk' : k < xs.length := by rw [bodyP_length hfit] at hk; exact hk
 refine ⟨k, hk', bodyP_at hfit hk', ?_⟩
 rw [bodyP_at hfit hk']
 refine ⟨herr_body hfit (by omega) hk', ?_⟩
 have hv := (fitsM_zero (hfit xs[k] (List.getElem_mem hk'))).1
 have hal : allV ((nms xs).take k) = true := allV_iff.2 fun n hm => allV_iff.1 (nms_allV hfit) n (List.mem_of_mem_take hm)
 have hl := tabl_len hal (k := 100) (by rw [List.length_take]; simp [nms]; omega)
 have := (nameOk_iff.1 (fld_ok (pre := (nms xs).take k) hv (by omega)).1).2.1
 exact this
theorem parts_len {hm : Bool} {md : List UInt8} {xs : List Mem} (hfit : ∀ x ∈ xs, fitsM x = 0) (hn : xs.length ≤ 20) (hok : ∀ x ∈ xs, MOk x) (hl : ∀ x ∈ xs, x.data.length = x.len) (hmd : md.length ≤ 20000) :
   (flat (mapP hm none md.length 0 md)).length ≤ 20061 ∧ (flat (tabP none (bo (nms xs)).length 0 (bo (nms xs)))).length ≤ 5201 ∧ (flat (bodyP xs)).length ≤ 21220 := by
 refine ⟨?_, ?_, ?_⟩
 · cases hm
   · simp [mapP, flat]
   · show (flat [_]).length ≤ 20061
     rw [flat_one, (ptl_len (x := mpt none md.length 0 md) (herr_map (by omega)) rfl).2]
     show 60 + md.length + md.length % 2 ≤ 20061
     omega
 · have hb := bo_len (nms xs)
   have hnl : (nms xs).length = xs.length := by simp [nms]
   unfold tabP
   split
   · simp [flat]
   · rw [flat_one, (ptl_len (x := tpt none (bo (nms xs)).length 0 (bo (nms xs))) (herr_tab (by omega)) rfl).2]
     show 60 + (bo (nms xs)).length + (bo (nms xs)).length % 2 ≤ 5201
     omega
 · have := flat_bound (M := 1061) (ps := bodyP xs) fun y hy => by
     obtain ⟨k, hk, e, he, _⟩ := body_mem hfit hn hy
     have h1 : y.len = xs[k].len := by rw [e]; rfl
     have h2 : y.data = xs[k].data := by rw [e]; rfl
     have h3 := (hok xs[k] (List.getElem_mem hk)).len
     rw [(ptl_len he (by rw [h1, h2]; exact hl _ (List.getElem_mem hk))).2]
     omega
   rw [bodyP_length hfit] at this
   omega
theorem arch_len {hm : Bool} {md : List UInt8} {xs : List Mem} (hfit : ∀ x ∈ xs, fitsM x = 0) (hn : xs.length ≤ 20) (hok : ∀ x ∈ xs, MOk x) (hl : ∀ x ∈ xs, x.data.length = x.len) (hmd : md.length ≤ 20000) : (arch hm md xs).length ≤ 50000 := by
 obtain ⟨h1, h2, h3⟩ := parts_len (hm := hm) hfit hn hok hl hmd
 unfold arch
 rw [List.length_append, List.length_append, List.length_append]
 have : Arp.magic.length = 8 := rfl
 omega

def wout (hm : Bool) (md : List UInt8) (xs : List Mem) : List UInt8 := if (fitL 0 xs).2 = 0 then arch hm md xs else []
end Go.Proofs.YtjobmkodgodloaaGreatDoor.Arw

namespace Go.Proofs.YtjobmkodgodloaaGreatDoor.Arw
open Go.RowKit Go.Proofs Go.Proofs.YtjobmkodgodloaaGreatDoor.Byt Go.Proofs.YtjobmkodgodloaaGreatDoor.Dec Go.Proofs.YtjobmkodgodloaaGreatDoor.Lnm Go.Proofs.YtjobmkodgodloaaGreatDoor.Hdr Go.Proofs.YtjobmkodgodloaaGreatDoor.Arp
open Go.Proofs.YtjobmkodgodloaaGreatDoor.Sls (Fr blk)

set_option linter.unusedSimpArgs false in
set_option maxRecDepth 100000 in
set_option maxHeartbeats 4000000 in
theorem rpart_any (s : ByteArray) (t u g m z : Int) (K : Nat) (A : Option Addr) (n c : Nat) (d : List UInt8) (w : World) (hr : Byt.Rd w K A n d) (hK : K ≤ w.heap.size) (hn : n ≤ 90000) (hs : s.size ≤ 1000) (l0 : t < 9223372036854775808) (l1 : u < 9223372036854775808) (l2 : g < 9223372036854775808) (l3 : m < 9223372036854775808) :
   Calls Tryz.prog 42 #[.agg #[.string s, .int .i64 t, .int .i64 u, .int .i64 g, .int .i64 m, .int .i64 z], .slice A n c] w fun e w' => ∃ v, e = .returned v ∧ Byt.Own w' w.heap.size v (mkp s (num t u g m (n : Int)) d).length (mkp s (num t u g m (n : Int)) d) ∧ Below w.heap.size w w' := by
 have hdl := hr.1
 have He := hid fun W => rencode_any s t u g m (n : Int) W (by omega) l0 l1 l2 l3 (by omega)
 unfold Encodes at He
 have Hp : Hid (mkp s (num t u g m (n : Int)) d = eout s (num t u g m (n : Int)) ++ d ++ (if n % 2 = 1 then [10] else [])) := hid (by unfold mkp; rw [hdl])
 have Hel := hid (eout_length s (num t u g m (n : Int)))
 generalize mkp s (num t u g m (n : Int)) d = L at *
 generalize eout s (num t u g m (n : Int)) = eb at *
 generalize eerr s (num t u g m (n : Int)) = ee at *
 have hb0 := (Below.refl w.heap.size w).alloc (Nat.le_refl _) (.cells #[.string s, .int .i64 t, .int .i64 u, .int .i64 g, .int .i64 m, .int .i64 (n : Int)] 106)
 have hrow := heap_alloc_new w (.cells #[.string s, .int .i64 t, .int .i64 u, .int .i64 g, .int .i64 m, .int .i64 (n : Int)] 106)
 go_enter Tryz.func42, Tryz.ntmps42
 go_upto_region 2 with fail
 generalize w.alloc (.cells #[.string s, .int .i64 t, .int .i64 u, .int .i64 g, .int .i64 m, .int .i64 (n : Int)] 106) = w0 at *
 have c0 := cell_of_row _ w.heap.size 0 _ _ _ hrow
 have c1 := cell_of_row _ w.heap.size 1 _ _ _ hrow
 have c2 := cell_of_row _ w.heap.size 2 _ _ _ hrow
 have c3 := cell_of_row _ w.heap.size 3 _ _ _ hrow
 have c4 := cell_of_row _ w.heap.size 4 _ _ _ hrow
 have c5 := cell_of_row _ w.heap.size 5 _ _ _ hrow
 have hs0 := hb0.size
 go_wp2_with fail
 refine (He.out _).mono ?_
 rintro e w1 ⟨v1, rfl, o1, hb1⟩
 obtain ⟨A1, k1, rfl, r1, _⟩ := o1.reads
 have hb01 := hb0.trans (hb1.mono hs0)
 have hs1 := hb01.size
 clear c0 c1 c2 c3 c4 c5 hrow o1
 go_wp2_with fail
 refine (Byt.add_any w1.heap.size K A1 A eb.length k1 n c eb d w1 r1 (hr.below (hb01.mono hK)) (Nat.le_refl _) (by omega) (by have := Hel.out; omega) (by omega)).mono ?_
 rintro e w2 ⟨v2, rfl, o2, hb2⟩
 obtain ⟨A2, k2, rfl, _⟩ := o2.reads
 have hb02 := hb01.trans (hb2.mono hs1)
 replace o2 := o2.more hs1
 have hel := Hel.out
 clear hb0 hb1 hb2 hs0 r1 hb01
 by_cases hodd : n % 2 = 1
 · have e1 : (n : Int).tmod 2 = 1 := by have : (n : Int).tmod 2 = ((n % 2 : Nat) : Int) := rfl; rw [this, hodd]; rfl
   have e2 : IntKind.i64.wrap 1 = 1 := by decide
   have HP : Hid (L = eb ++ d ++ [10]) := hid (by rw [Hp.out, if_pos hodd])
   clear hodd Hp
   go_wp2_with (at_builtin; go_must (refine Byt.wpList_push w2 w.heap.size (.slice A2 (eb.length + n) k2) (eb.length + n) _ 10 _ rfl o2 hb02.size (by omega) rfl (.tmp 22) (.tmp 23) rfl rfl rfl ?_); intro v3 w3 o3 hb3; obtain ⟨A3, k3, rfl, _⟩ := o3.reads)
   go_ret
   have hl : L.length = eb.length + n + 1 := by rw [HP.out, List.length_append, List.length_append, hdl]; rfl
   refine ⟨_, rfl, ?_, hb02.trans hb3⟩
   rw [hl, HP.out]
   exact o3
 · have h0 : n % 2 = 0 := by omega
   have e1 : (n : Int).tmod 2 = 0 := by have : (n : Int).tmod 2 = ((n % 2 : Nat) : Int) := rfl; rw [this, h0]; rfl
   have e2 : IntKind.i64.wrap 0 = 0 := by decide
   have HP : Hid (L = eb ++ d) := hid (by rw [Hp.out, if_neg hodd, List.append_nil])
   clear hodd Hp h0
   go_wp2_with fail
   go_ret
   have hl : L.length = eb.length + n := by rw [HP.out, List.length_append, hdl]
   refine ⟨_, rfl, ?_, hb02⟩
   rw [hl, HP.out]
   exact o2
end Go.Proofs.YtjobmkodgodloaaGreatDoor.Arw
