/-
  BindJoins: the joining of states is a monoid with an order that nothing moves: associative, the empty state neutral on both sides.
-/
import Derived.Test.YtechacnflegliaaDoorZBs
import Derived.Test.YtechacnflegliaaDoorZBn
import Derived.Test.YtechacnflegliaaDoorCards
namespace Go.Proofs.YtechacnflegliaaDoor.Joins13
open Go.ChangeShapes Go.WideShapes Go.ChangeAt Go.RowKit Go.Proofs Go.Proofs.YtechacnflegliaaDoor.Byt Go.Proofs.YtechacnflegliaaDoor.Frame
open Go.Proofs.YtechacnflegliaaDoor.Bnd
set_option maxRecDepth 100000

theorem walk (w : World) (hP : Prec w) (A : Option Addr) (n c : Nat) (xs : List Us) (h : RdU w w.heap.size A n xs) (_ : n ≤ c) (_ : c ≤ maxLen) (A' : Option Addr) (n' c' : Nat) (ys : List Us) (h' : RdU w w.heap.size A' n' ys) (_ : n' ≤ c') (_ : c' ≤ maxLen) (A'' : Option Addr) (n'' c'' : Nat) (zs : List Us) (h'' : RdU w w.heap.size A'' n'' zs) (_ : n'' ≤ c'') (_ : c'' ≤ maxLen) :
    Calls Tryd.prog 3 #[.slice A n c, .slice A' n' c', .slice A'' n'' c''] w fun e w' => e = .returned (.bool true) ∧ Below w.heap.size w w' :=
  joins13 w hP A n c xs h A' n' c' ys h' A'' n'' c'' zs h''
set_option maxRecDepth 100000 in
theorem held : Rows.BindJoinsSaid :=
  OpenClaim.holds_of_wide 3 Tryd.f3 rfl rfl rfl rfl rfl rfl rfl ⟨rfl, rfl, rfl, rfl, rfl⟩ rfl rfl rfl rfl rfl (by kernel_rfl) Tryd.func3 (by kernel_rfl)
    (of_decide_eq_true (by kernel_rfl)) (by unfold Func.isWrapper; first | (rw [if_pos (by decide +kernel)]; kernel_rfl) | (rw [if_neg (by decide +kernel)]; exact ⟨rfl, rfl⟩))
    (fun os started H enc _ => liftedG (started := started) (s := Rows.bindJoinsSpec) (L := Rows.bindJoinsRow.laid) rfl
      (fun ds h => by match ds, h with | [_, _, _], _ => rfl) (by kernel_rfl)
      (by kernel_rfl) (by kernel_rfl) Tryd.func3
      (ChangeSpec.witness_shaped (enc := enc) (C := Tryd.checked) (os := os) (X := fun w _ => laidMetH Tryd.prog Rows.bindJoinsRow.laid w) false (World.laidAll Tryd.prog os Rows.bindJoinsRow.laid) #[.slice none 0 0, .slice none 0 0, .slice none 0 0] 8 (World.laidAll_os _ _ _)
        (World.shaped_of_ZipB (by kernel_rfl) (by kernel_rfl)) (by kernel_rfl) (by kernel_rfl) (by kernel_rfl)
        (by rw [MakeChecks.laidMetH_plain _ _ _ (by kernel_rfl)]; exact laidMet_laidAll _ (by kernel_rfl) (by kernel_rfl)))
      gndb_of (fun W base args ds p hG h => by
        obtain ⟨hval, hA, _⟩ := h
        rw [show Tryd.f3.params = #[22, 22, 22] from by kernel_rfl] at hA hval
        obtain ⟨v0, vs0, d0, ds0, p0, q0, hargs, rfl, rfl, k0, r0⟩ := trodAll_cons hA
        obtain ⟨v1, vs1, d1, ds1, p1, q1, rfl, rfl, rfl, k1, r1⟩ := trodAll_cons r0
        obtain ⟨v2, vs2, d2, ds2, p2, q2, rfl, rfl, rfl, k2, r2⟩ := trodAll_cons r1
        obtain ⟨rfl, rfl, rfl⟩ := trodAll_nil r2
        obtain rfl : args = #[v0, v1, v2] := by cases args; simp_all
        obtain ⟨A0, n0, c0, l0, rfl, h0, m0, g0⟩ := open_uses (hval 0 _ v0 rfl rfl) k0
        obtain ⟨A1, n1, c1, l1, rfl, h1, m1, g1⟩ := open_uses (hval 1 _ v1 rfl rfl) k1
        obtain ⟨A2, n2, c2, l2, rfl, h2, m2, g2⟩ := open_uses (hval 2 _ v2 rfl rfl) k2
        exact walk W hG A0 n0 c0 l0 h0 m0 g0 A1 n1 c1 l1 h1 m1 g1 A2 n2 c2 l2 h2 m2 g2))
theorem proved : Rows.BindJoinsCardSaid :=
  Claim7.holds_tied_plain_at .later [] [.data] true (true, "aca3bd19101ff2e3cd7bd264ece00945e5c9847a34e5b0d1c6cd363903548474") false held (fun _ h => by cases h) (by kernel_rfl) (fun _ h => by cases h) bindJoins_row_tie rfl ⟨rfl, rfl⟩ (by kernel_rfl) rfl
    (fun f fn hf hfn => by
      obtain rfl : f = 3 := Option.some.inj ((show Tryd.prog.funcNamed "arlink/arlinklaw13.BindJoins" = some 3 by kernel_rfl).symm.trans hf) |>.symm
      obtain rfl : fn = Tryd.f3 := (Option.some.inj (Tryd.func3.symm.trans hfn)).symm
      exact ⟨by kernel_rfl, fun j t ht => by
        rw [Tryd.params3] at ht
        have hm : t ∈ [22, 22, 22] := by simpa using Array.mem_of_getElem? ht
        have hall : ([22, 22, 22].all fun u => !Tryd.prog.wantsStandIn u) = true := by kernel_rfl
        exact (show Tryd.prog.wantsStandIn t = false by simpa using List.all_eq_true.1 hall t hm)⟩)
    (by kernel_rfl)
#print axioms proved
end Go.Proofs.YtechacnflegliaaDoor.Joins13
