/-
  edit: what the laws' walks share: a place handed on, a member and a place in their variables.
-/
import Derived.Test.YtijggpahijhpeaaZEj
import Derived.Test.YtijggpahijhpeaaZEk
import Derived.BigQuiet
namespace Go.Proofs.Ytijggpahijhpeaa.Edt
open Go.RowKit Go.Proofs Go.Proofs.Ytijggpahijhpeaa.Byt
open Go.Proofs.Ytijggpahijhpeaa.Arp (Mem RdM OwnM mcells)
open Go.Proofs.Ytijggpahijhpeaa.Arw (core MOk RdM0)

theorem forward_any (z : Int) (a : ByteArray) (w : World) : Calls Try.prog 11 #[.agg #[.int .i64 z, .string a]] w fun e w' => e = .returned (.agg #[.int .i64 z, .string a]) ∧ Below w.heap.size w w' := by
  have hb := ((Below.refl w.heap.size w).alloc (Nat.le_refl _) (.cells #[.int .i64 z, .string a] 27)).alloc (by simp) (.cells #[.int .i64 z, .string a] 33)
  have hrow := heap_alloc_new (w.alloc (.cells #[.int .i64 z, .string a] 27)) (.cells #[.int .i64 z, .string a] 33)
  rw [World.size_alloc] at hrow
  have hl := run_loadVar_row (P := Try.prog) _ _ 33 33 _ (0, 0) _ hrow Try.underlying33 rfl (by kernel_rfl)
  clear hrow
  go_enter Try.func11, Try.ntmps11
  go_wp2_with fail
  exact bodyPost_ret (v := .agg #[.int .i64 z, .string a]) (by simp [results, Try.results11, asAddr, hl]) rfl ⟨rfl, hb⟩
/-- A member and a place in their variables. -/
def BoxS (g : Nat) (m0 : ByteArray) (m1 m2 m3 m4 : Int) (m5 : Option Addr) (m6 m7 : Nat) (z : Int) (a : ByteArray) (W : World) : Prop :=
  W.cell? ⟨g, 0, none⟩ = some (.string m0) ∧ W.cell? ⟨g, 1, none⟩ = some (.int .i64 m1) ∧ W.cell? ⟨g, 2, none⟩ = some (.int .i64 m2) ∧ W.cell? ⟨g, 3, none⟩ = some (.int .i64 m3) ∧ W.cell? ⟨g, 4, none⟩ = some (.int .i64 m4) ∧ W.cell? ⟨g, 5, none⟩ = some (.slice m5 m6 m7) ∧ W.cell? ⟨g + 1, 0, none⟩ = some (.int .i64 z) ∧ W.cell? ⟨g + 1, 1, none⟩ = some (.string a)
theorem BoxS.of {g : Nat} {m0 : ByteArray} {m1 m2 m3 m4 : Int} {m5 : Option Addr} {m6 m7 : Nat} {z : Int} {a : ByteArray} {W : World}
    (h : W.heap[g]? = some (.cells #[.string m0, .int .i64 m1, .int .i64 m2, .int .i64 m3, .int .i64 m4, .slice m5 m6 m7] 25 (0, 0))) (h' : W.heap[g + 1]? = some (.cells #[.int .i64 z, .string a] 27 (0, 0))) : BoxS g m0 m1 m2 m3 m4 m5 m6 m7 z a W :=
  ⟨cell_of_row _ g 0 _ _ _ h, cell_of_row _ g 1 _ _ _ h, cell_of_row _ g 2 _ _ _ h, cell_of_row _ g 3 _ _ _ h, cell_of_row _ g 4 _ _ _ h, cell_of_row _ g 5 _ _ _ h, cell_of_row _ (g + 1) 0 _ _ _ h', cell_of_row _ (g + 1) 1 _ _ _ h'⟩
theorem sameMem_any (x m : Mem) (hc : core x = core m) (K K' : Nat) (w : World) (hx : Byt.Rd w K x.ptr x.len x.data) (hm : Byt.Rd w K' m.ptr m.len m.data) (hn : x.len ≤ 140737488355328) (hK : K ≤ w.heap.size) (hK' : K' ≤ w.heap.size) :
    Calls Try.prog 27 #[x.val, m.val] w fun e w' => e = .returned (.bool true) ∧ Below w.heap.size w w' := by
  have e0 : x.name = m.name := show (core x).name = (core m).name from congrArg Mem.name hc
  have e1 : x.time = m.time := show (core x).time = (core m).time from congrArg Mem.time hc
  have e2 : x.uid = m.uid := show (core x).uid = (core m).uid from congrArg Mem.uid hc
  have e3 : x.gid = m.gid := show (core x).gid = (core m).gid from congrArg Mem.gid hc
  have e4 : x.mode = m.mode := show (core x).mode = (core m).mode from congrArg Mem.mode hc
  have e5 : x.data = m.data := show (core x).data = (core m).data from congrArg Mem.data hc
  have h := Arp.rsamemember_any x.name m.name x.time m.time x.uid m.uid x.gid m.gid x.mode m.mode K K' x.ptr m.ptr x.len x.cap m.len m.cap x.data m.data w hx hm hn hK hK'
  have hs : Arp.sameM x.name m.name x.time m.time x.uid m.uid x.gid m.gid x.mode m.mode x.data m.data = true := by
    rw [e0, e1, e2, e3, e4, e5]
    unfold Arp.sameM
    simp
  rw [hs] at h
  exact h
theorem core_at {xs ys : List Mem} (h : ys.map core = xs.map core) {k : Nat} (hk : k < ys.length) (hk' : k < xs.length) : core ys[k] = core xs[k] := by
  have h1 : (ys.map core)[k]? = (xs.map core)[k]? := by rw [h]
  rw [List.getElem?_map, List.getElem?_map, List.getElem?_eq_getElem hk, List.getElem?_eq_getElem hk'] at h1
  exact Option.some.inj h1
theorem len_core {xs ys : List Mem} (h : ys.map core = xs.map core) : ys.length = xs.length := by
  have := congrArg List.length h
  simpa using this
end Go.Proofs.Ytijggpahijhpeaa.Edt
