/-
  The reference of header: which names fit, a field, a
-/
import Derived.Test.YtlmolmohhpdhdaaGreatDoorZMb
import Derived.Test.YtlmolmohhpdhdaaGreatDoorZMc
import Derived.Orders
import Derived.Deep.Cut
import Derived.Test.YtlmolmohhpdhdaaGreatDoorZHdk
import Derived.Deep.LoopGhost
set_option maxRecDepth 100000
set_option maxHeartbeats 16000000
set_option linter.unusedSimpArgs false
set_option linter.unusedVariables false
namespace Go.Proofs.YtlmolmohhpdhdaaGreatDoor
open Go.RowKit Go.Proofs
namespace JH
open JB JT JD
theorem qm0 (K K':Nat)(A A':Option Addr)(n c n' c':Nat)(xs ys:List UInt8)(w:World)(h:Rd w K A n xs)(h':Rd w K' A' n' ys)(hK:K≤w.heap.size)(hK':K'≤w.heap.size)(hn:n≤10000)(hn':n'≤10000):
 Calls Tryz.prog 100 #[.slice A n c,.slice A' n' c'] w fun e w'=>∃v,e=.returned v∧Own w' w.heap.size v (n+n') (xs++ys)∧Below w.heap.size w w':=by
 have hbl:=hid ((Below.refl w.heap.size w).alloc zjn (.cells #[] 5))
 have H1:=hid ((h.more hK).below hbl.out)
 have H2:=hid ((h'.more hK').below hbl.out)
 clear h h'
 go_enter Tryz.func100,Tryz.ntmps100
 go_wp2_with (first
  |(at_builtin;refine qar _ w.heap.size _ 0 [] (Own.lit0 w w.heap.size zjn) (by simp) A n c _ xs H1.out (by omega) rfl (.tmp 5) (.tmp 6) rfl rfl rfl ?_;intro v1 w1 hown1 hb1;have hb01:=hbl.out.trans hb1)
  |(at_builtin;refine qar _ w.heap.size _ _ _ hown1 hb01.size A' n' c' _ ys (H2.out.below hb1) (by omega) rfl (.tmp 7) (.tmp 8) rfl rfl rfl ?_;intro v2 w2 hown2 hb2))
 go_ret
 refine⟨_,rfl,?_,hb01.trans hb2⟩
 rw[Nat.zero_add,List.nil_append] at hown2
 exact hown2
end JH
namespace JH
open JB JT JD
end JH
namespace JH
open JB JT JD
set_option maxRecDepth 100000
def ob : Oper := { dst := some 76, op := .load 9 (.tmp 75), type := 9, pos := "ref.go:57", after := #[{ on := 0, ground := .data }], guard := none }
def oc : Oper := { dst := some 77, op := .convert 9 22 (.tmp 76), type := 22, pos := "ref.go:57", after := #[{ on := 1, ground := .data }], guard := none }
def oi : Oper := { dst := some 83, op := .call { callee := .builtin .append, args := #[.tmp 77, .tmp 82], argTypes := #[22, 22] }, type := 22, pos := "ref.go:57", after := #[{ on := 2, ground := .data }, { on := 7, ground := .data }, { on := 7, ground := .chain }], guard := none }
def oj : Oper := { dst := some 15, op := .assign (.tmp 83), type := 22, pos := "ref.go:57", after := #[{ on := 8, ground := .data }, { on := 8, ground := .chain }, { on := 0, ground := .phase }, { on := 1, ground := .phase }, { on := 2, ground := .phase },
 {on:=3,ground:=.phase},{on:=4,ground:=.phase},{on:=5,ground:=.phase},{on:=6,ground:=.phase},{on:=7,ground:=.phase},{on:=8,ground:=.phase}],guard:=none}
def qwm (a0 a:Act):Prop:=a.defers=a0.defers∧a.tmps.size=a0.tmps.size∧∀k,k≠15→(k<75∨83<k)→a.tmps[k]?=a0.tmps[k]?
theorem qwm.put {a0 a:Act}(h:qwm a0 a)(d:Nat)(hd:75≤d∧d≤83)(v:Value):qwm a0 (a.put (some d) v):=by
 refine⟨h.1,by simp[Act.put];exact h.2.1,fun k h15 hk=>?_⟩
 show (a.tmps.setIfInBounds d v)[k]?=_
 rw[Array.getElem?_setIfInBounds_ne (by omega)]
 exact h.2.2 k h15 hk
theorem qcg {a:Act}{d k:Nat}(h:d≠k)(v:Value):(a.put (some d) v).eval (.tmp k)=a.eval (.tmp k):=by
 show (a.tmps.setIfInBounds d v).getD k undef=a.tmps.getD k undef
 rw[Array.getD_eq_getD_getElem?,Array.getD_eq_getD_getElem?,Array.getElem?_setIfInBounds_ne h]
theorem qwm.one {a0 a:Act}(h:qwm a0 a):a.eval (.tmp 1)=a0.eval (.tmp 1):=by
 show a.tmps.getD 1 undef=a0.tmps.getD 1 undef
 rw[Array.getD_eq_getD_getElem?,Array.getD_eq_getD_getElem?,h.2.2 1 (by omega) (by omega)]
section
variable {Q : Exit → Act → World → Prop} {K' : Act → World → Prop} {a : Act} {w : World} {K B : Nat} {s : ByteArray}
end
section
variable {Q : Exit → Act → World → Prop} {a0 : Act} {w0 : World} {K B : Nat} {s : ByteArray}
def Sa (K B:Nat)(s:ByteArray)(i:Nat)(a:Act)(w:World):Prop:=
 (1≤i→a.eval (.tmp 75)=.pointer (some ⟨B,0,none⟩))∧(2≤i→a.eval (.tmp 76)=.string s)∧(3≤i→Own w K (a.eval (.tmp 77)) s.size (by_ s))
def Sb (K B:Nat)(s:ByteArray)(j:Nat)(a:Act)(w:World):Prop:=
 (1≤j→a.eval (.tmp 78)=.pointer (some ⟨B,0,none⟩))∧(2≤j→a.eval (.tmp 79)=.string s)∧(3≤j→a.eval (.tmp 80)=.int .i64 (s.size:Int))∧(4≤j→a.eval (.tmp 81)=.int .i64 ((16-s.size:Nat):Int))∧
  (5≤j→Own w K (a.eval (.tmp 82)) (16-s.size) (List.replicate (16-s.size) 32))
structure St (a0:Act) (w0:World) (K B:Nat) (s:ByteArray) (i j:Nat) (a:Act) (w:World):Prop where
 keeps:qwm a0 a
 below:Below K w0 w
 sa:Sa K B s i a w
 sb:Sb K B s j a w
structure Fix (a0:Act) (w0:World) (K B:Nat) (s:ByteArray):Prop where
 size:a0.tmps.size=98
 one:a0.eval (.tmp 1)=.pointer (some ⟨B,0,none⟩)
 name:w0.cell? ⟨B,0,none⟩=some (.string s)
 lt:B<K
 le:K≤w0.heap.size
 small:s.size≤16
theorem Sb.put {j:Nat}{a:Act}{w w':World}(h:Sb K B s j a w)(hb:Below w.heap.size w w'){d:Nat}(hd:d≤77)(v:Value):Sb K B s j (a.put (some d) v) w':=by
 obtain⟨h1,h2,h3,h4,h5⟩:=h
 refine⟨fun hj=>?_,fun hj=>?_,fun hj=>?_,fun hj=>?_,fun hj=>?_⟩
 ·rw[qcg (by omega)];exact h1 hj
 ·rw[qcg (by omega)];exact h2 hj
 ·rw[qcg (by omega)];exact h3 hj
 ·rw[qcg (by omega)];exact h4 hj
 ·rw[qcg (by omega)];exact (h5 hj).below hb
theorem Sa.put {i:Nat}{a:Act}{w w':World}(h:Sa K B s i a w)(hb:Below w.heap.size w w'){d:Nat}(hd:78≤d)(v:Value):Sa K B s i (a.put (some d) v) w':=by
 obtain⟨h1,h2,h3⟩:=h
 refine⟨fun hj=>?_,fun hj=>?_,fun hj=>?_⟩
 ·rw[qcg (by omega)];exact h1 hj
 ·rw[qcg (by omega)];exact h2 hj
 ·rw[qcg (by omega)];exact (h3 hj).below hb
theorem St.one {i j:Nat}{a:Act}{w:World}(h:St a0 w0 K B s i j a w)(F:Fix a0 w0 K B s):a.eval (.tmp 1)=.pointer (some ⟨B,0,none⟩):=h.keeps.one.trans F.one
theorem St.size {i j:Nat}{a:Act}{w:World}(h:St a0 w0 K B s i j a w)(F:Fix a0 w0 K B s):a.tmps.size=98:=h.keeps.2.1.trans F.size
theorem St.name {i j:Nat}{a:Act}{w:World}(h:St a0 w0 K B s i j a w)(F:Fix a0 w0 K B s):w.cell? ⟨B,0,none⟩=some (.string s):=by
 rw[h.below.cell (p:=⟨B,0,none⟩) F.lt];exact F.name
theorem St.le {i j:Nat}{a:Act}{w:World}(h:St a0 w0 K B s i j a w)(F:Fix a0 w0 K B s):K≤w.heap.size:=Nat.le_trans F.le h.below.size
variable {K' : Act → World → Prop} {j i : Nat} {a : Act} {w : World}
end
end JH
namespace JH
open JB JT JD
end JH
namespace JH
open JB JT JD
def okc (l:List UInt8)(k j:Nat):Bool:=if j<k then (rdF (qa9 (nm l)) j (qcc l j)).isSome else false
def okcells (l:List UInt8)(k:Nat):Array Value:=#[.bool (okc l k 0),.bool (okc l k 1),.bool (okc l k 2),.bool (okc l k 3),.bool (okc l k 4)]
end JH
namespace JH
open JB JT JD
end JH
namespace JH
open JB JT JD
structure RS (w:World) (l:List UInt8) (k:Nat) (W:World):Prop where
 res:W.heap[w.heap.size]?=some (.cells #[.string ⟨#[]⟩,.int .i64 0,.int .i64 0,.int .i64 0,.int .i64 0,.int .i64 0] 155 (0,0))
 hdr:W.heap[w.heap.size+1]?=some (.cells (qgg l k) 155 (0,0))
 oks:W.heap[w.heap.size+2]?=some (.cells (okcells l k) 4 (0,0))
 bel:Below w.heap.size w W
theorem RS.size {w W:World}{l:List UInt8}{k:Nat}(h:RS w l k W):w.heap.size+2<W.heap.size:=(Array.getElem?_eq_some_iff.1 h.oks).1
theorem RS.call {w W W':World}{l:List UInt8}{k:Nat}(h:RS w l k W)(hb:Below W.heap.size W W'):RS w l k W':=by
 have hz:=h.size
 exact⟨(hb.block _ (by omega)).trans h.res,(hb.block _ (by omega)).trans h.hdr,(hb.block _ (by omega)).trans h.oks,h.bel.trans (hb.mono (by omega))⟩
end JH
end Go.Proofs.YtlmolmohhpdhdaaGreatDoor
