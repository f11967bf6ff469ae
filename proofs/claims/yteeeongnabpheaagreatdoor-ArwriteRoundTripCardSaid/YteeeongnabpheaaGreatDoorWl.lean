/-
  arwrite's reference: part.
-/
import Derived.Test.YteeeongnabpheaaGreatDoorWk
namespace Go.Proofs.YteeeongnabpheaaGreatDoor.Arw
open Go.RowKit Go.Proofs Go.Proofs.YteeeongnabpheaaGreatDoor.Byt Go.Proofs.YteeeongnabpheaaGreatDoor.Dec Go.Proofs.YteeeongnabpheaaGreatDoor.Lnm Go.Proofs.YteeeongnabpheaaGreatDoor.Hdr Go.Proofs.YteeeongnabpheaaGreatDoor.Arp
open Go.Proofs.YteeeongnabpheaaGreatDoor.Sls (Fr blk)

set_option linter.unusedSimpArgs false in
set_option maxRecDepth 100000 in
set_option maxHeartbeats 4000000 in
theorem rpart_any (s : ByteArray) (t u g m z : Int) (K : Nat) (A : Option Addr) (n c : Nat) (d : List UInt8) (w : World) (hr : Byt.Rd w K A n d) (hK : K ≤ w.heap.size) (hn : n ≤ 90000) (hs : s.size ≤ 1000) (l0 : t < 9223372036854775808) (l1 : u < 9223372036854775808) (l2 : g < 9223372036854775808) (l3 : m < 9223372036854775808) :
    Calls Tryz.prog 35 #[.agg #[.string s, .int .i64 t, .int .i64 u, .int .i64 g, .int .i64 m, .int .i64 z], .slice A n c] w fun e w' => ∃ v, e = .returned v ∧ Byt.Own w' w.heap.size v (mkp s (num t u g m (n : Int)) d).length (mkp s (num t u g m (n : Int)) d) ∧ Below w.heap.size w w' := by
  have hdl := hr.1
  have He := hid fun W => rencode_any s t u g m (n : Int) W (by omega) l0 l1 l2 l3 (by omega)
  unfold Encodes at He
  have Hp : Hid (mkp s (num t u g m (n : Int)) d = eout s (num t u g m (n : Int)) ++ d ++ (if n % 2 = 1 then [10] else [])) := hid (by unfold mkp; rw [hdl])
  have Hel := hid (eout_length s (num t u g m (n : Int)))
  generalize mkp s (num t u g m (n : Int)) d = L at *
  generalize eout s (num t u g m (n : Int)) = eb at *
  generalize eerr s (num t u g m (n : Int)) = ee at *
  have hb0 := (Below.refl w.heap.size w).alloc (Nat.le_refl _) (.cells #[.string s, .int .i64 t, .int .i64 u, .int .i64 g, .int .i64 m, .int .i64 (n : Int)] 62)
  have hrow := heap_alloc_new w (.cells #[.string s, .int .i64 t, .int .i64 u, .int .i64 g, .int .i64 m, .int .i64 (n : Int)] 62)
  go_enter Tryz.func35, Tryz.ntmps35
  go_upto_region 2 with fail
  generalize w.alloc (.cells #[.string s, .int .i64 t, .int .i64 u, .int .i64 g, .int .i64 m, .int .i64 (n : Int)] 62) = w0 at *
  have c0 := cell_of_row _ w.heap.size 0 _ _ _ hrow
  have c1 := cell_of_row _ w.heap.size 1 _ _ _ hrow
  have c2 := cell_of_row _ w.heap.size 2 _ _ _ hrow
  have c3 := cell_of_row _ w.heap.size 3 _ _ _ hrow
  have c4 := cell_of_row _ w.heap.size 4 _ _ _ hrow
  have c5 := cell_of_row _ w.heap.size 5 _ _ _ hrow
  have hs0 := hb0.size
  go_wp2_with fail
  refine (He.out _).mono ?_
  rintro e w1 ⟨v1, rfl, o1, hb1⟩
  obtain ⟨A1, k1, rfl, r1, _⟩ := o1.reads
  have hb01 := hb0.trans (hb1.mono hs0)
  have hs1 := hb01.size
  clear c0 c1 c2 c3 c4 c5 hrow o1
  go_wp2_with fail
  refine (Byt.add_any w1.heap.size K A1 A eb.length k1 n c eb d w1 r1 (hr.below (hb01.mono hK)) (Nat.le_refl _) (by omega) (by have := Hel.out; omega) (by omega)).mono ?_
  rintro e w2 ⟨v2, rfl, o2, hb2⟩
  obtain ⟨A2, k2, rfl, _⟩ := o2.reads
  have hb02 := hb01.trans (hb2.mono hs1)
  replace o2 := o2.more hs1
  have hel := Hel.out
  clear hb0 hb1 hb2 hs0 r1 hb01
  by_cases hodd : n % 2 = 1
  · have e1 : (n : Int).tmod 2 = 1 := by have : (n : Int).tmod 2 = ((n % 2 : Nat) : Int) := rfl; rw [this, hodd]; rfl
    have e2 : IntKind.i64.wrap 1 = 1 := by decide
    have HP : Hid (L = eb ++ d ++ [10]) := hid (by rw [Hp.out, if_pos hodd])
    clear hodd Hp
    go_wp2_with (at_builtin; go_must (refine Byt.wpList_push w2 w.heap.size (.slice A2 (eb.length + n) k2) (eb.length + n) _ 10 _ rfl o2 hb02.size (by omega) rfl (.tmp 22) (.tmp 23) rfl rfl rfl ?_); intro v3 w3 o3 hb3; obtain ⟨A3, k3, rfl, _⟩ := o3.reads)
    go_ret
    have hl : L.length = eb.length + n + 1 := by rw [HP.out, List.length_append, List.length_append, hdl]; rfl
    refine ⟨_, rfl, ?_, hb02.trans hb3⟩
    rw [hl, HP.out]
    exact o3
  · have h0 : n % 2 = 0 := by omega
    have e1 : (n : Int).tmod 2 = 0 := by have : (n : Int).tmod 2 = ((n % 2 : Nat) : Int) := rfl; rw [this, h0]; rfl
    have e2 : IntKind.i64.wrap 0 = 0 := by decide
    have HP : Hid (L = eb ++ d) := hid (by rw [Hp.out, if_neg hodd, List.append_nil])
    clear hodd Hp h0
    go_wp2_with fail
    go_ret
    have hl : L.length = eb.length + n := by rw [HP.out, List.length_append, hdl]
    refine ⟨_, rfl, ?_, hb02⟩
    rw [hl, HP.out]
    exact o2
end Go.Proofs.YteeeongnabpheaaGreatDoor.Arw
