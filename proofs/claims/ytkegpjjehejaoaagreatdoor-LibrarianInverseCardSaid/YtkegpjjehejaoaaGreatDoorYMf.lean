/-
  The reference of header: which names fit, a field, a
-/
import Derived.Test.YtkegpjjehejaoaaGreatDoorYMb
import Derived.Test.YtkegpjjehejaoaaGreatDoorYMc
import Derived.Orders
import Derived.Deep.Cut
import Derived.Test.YtkegpjjehejaoaaGreatDoorYHdk
import Derived.Deep.LoopGhost
set_option maxRecDepth 100000
set_option maxHeartbeats 16000000
set_option linter.unusedSimpArgs false
set_option linter.unusedVariables false
namespace Go.Proofs.YtkegpjjehejaoaaGreatDoor
open Go.RowKit Go.Proofs
namespace JH
open JB JT JD
def rfOk (n:Int)(b w:Nat)(blank:Bool):Bool:=if blank=true then n==0 else decide (0≤n)&&decide (nd b n.toNat≤w)
def Qb6 (n:Int)(b w:Nat)(blank:Bool):List UInt8:=if blank=true then List.replicate w 32 else Qan n b w
def Fields (n:Int)(b wd:Nat)(blank:Bool)(w:World)(e:Ending)(w':World):Prop:=
 ∃v,e=.returned (.tuple #[v,.bool (rfOk n b wd blank)])∧Own w' w.heap.size v (Qb6 n b wd blank).length (Qb6 n b wd blank)∧Below w.heap.size w w'
theorem Qb7 (n:Int)(b w:Nat)(hb:vb (b:Int)=true)(hw:vw (w:Int)=true):(qyq n b w==0)=(decide (0≤n)&&decide (nd b n.toNat≤w)):=by
 by_cases h:0≤n∧(nd b n.toNat:Int)≤w
 ·have h0:=(Qet (n:=n) (b:=b) (w:=w) ⟨hb,hw⟩ (by rw[Int.toNat_natCast];exact h)).1
  have h2:nd b n.toNat≤w:=by omega
  rw[h0];simp[h.1,h2]
 ·have h0:=(qyr (n:=n) (b:=b) (w:=w) ⟨hb,hw⟩ (by rw[Int.toNat_natCast];exact h)).1
  have h2:¬(0≤n∧nd b n.toNat≤w):=by omega
  rw[h0]
  by_cases h3:0≤n
  ·have h4:¬nd b n.toNat≤w:=fun h5=>h2 ⟨h3,h5⟩
   simp[h4]
  ·simp[h3]
theorem qt3 (n:Int)(b wd:Nat)(w:World)(hw:wd≤1000):
 Calls Tryz.prog 88 #[.int .i64 n,.int .i64 (b:Int),.int .i64 (wd:Int),.bool true] w (Fields n b wd true w):=by
 have Hs:=hid (qn8 wd w hw)
 have Hf:Hid (∀v w',Own w' w.heap.size v wd (List.replicate wd 32)→Below w.heap.size w w'→Fields n b wd true w (.returned (.tuple #[v,.bool (n==0)])) w'):=hid fun v w' h1 h2=>
  ⟨v,rfl,by
   have:Qb6 n b wd true=List.replicate wd 32:=rfl
   rw[this,List.length_replicate];exact h1,h2⟩
 go_enter Tryz.func88,Tryz.ntmps88
 go_wp2_with fail
 refine Hs.out.mono ?_
 rintro e w1 ⟨v1,rfl,hown1,hb1⟩
 go_wp2_with fail
 go_ret2
 exact Hf.out _ _ hown1 hb1
theorem qyz (n:Int)(b wd:Nat)(w:World)(hn:n<9223372036854775808)(hb:vb (b:Int)=true)(hw:vw (wd:Int)=true):
 Calls Tryz.prog 88 #[.int .i64 n,.int .i64 (b:Int),.int .i64 (wd:Int),.bool false] w (Fields n b wd false w):=by
 have Hs:=hid fun w'=>qwy n b wd w' hn
 have Hf:Hid (∀v w',Own w' w.heap.size v (Qan n b wd).length (Qan n b wd)→Below w.heap.size w w'→Fields n b wd false w (.returned (.tuple #[v,.bool (qyq n b wd==0)])) w'):=hid fun v w' h1 h2=>
  ⟨v,by rw[Qb7 n b wd hb hw];rfl,h1,h2⟩
 clear hb hw
 go_enter Tryz.func88,Tryz.ntmps88
 go_wp2_with fail
 refine (Hs.out _).mono ?_
 rintro e w1 ⟨v1,rfl,hown1,hb1⟩
 go_wp2_with fail
 go_ret2
 exact Hf.out _ _ hown1 hb1
theorem qz0 (n:Int)(b wd:Nat)(blank:Bool)(w:World)(hn:n<9223372036854775808)(hb:vb (b:Int)=true)(hw:vw (wd:Int)=true):
 Calls Tryz.prog 88 #[.int .i64 n,.int .i64 (b:Int),.int .i64 (wd:Int),.bool blank] w (Fields n b wd blank w):=by
 cases blank
 ·exact qyz n b wd w hn hb hw
 ·exact qt3 n b wd w (by have:=qfd.1 hw;omega)
theorem qfw (K K':Nat)(A A':Option Addr)(n c n' c':Nat)(xs ys:List UInt8)(w:World)(h:Rd w K A n xs)(h':Rd w K' A' n' ys)(hK:K≤w.heap.size)(hK':K'≤w.heap.size)(hn:n≤10000)(hn':n'≤10000):
 Calls Tryz.prog 58 #[.slice A n c,.slice A' n' c'] w fun e w'=>∃v,e=.returned v∧Own w' w.heap.size v (n+n') (xs++ys)∧Below w.heap.size w w':=by
 have hbl:=hid ((Below.refl w.heap.size w).alloc zjn (.cells #[] 5))
 have H1:=hid ((h.more hK).below hbl.out)
 have H2:=hid ((h'.more hK').below hbl.out)
 clear h h'
 go_enter Tryz.func58,Tryz.ntmps58
 go_wp2_with (first
  |(at_builtin;refine qai _ w.heap.size _ 0 [] (Own.lit0 w w.heap.size zjn) (by simp) A n c _ xs H1.out (by omega) rfl (.tmp 5) (.tmp 6) rfl rfl rfl ?_;intro v1 w1 hown1 hb1;have hb01:=hbl.out.trans hb1)
  |(at_builtin;refine qai _ w.heap.size _ _ _ hown1 hb01.size A' n' c' _ ys (H2.out.below hb1) (by omega) rfl (.tmp 7) (.tmp 8) rfl rfl rfl ?_;intro v2 w2 hown2 hb2))
 go_ret
 refine⟨_,rfl,?_,hb01.trans hb2⟩
 rw[Nat.zero_add,List.nil_append] at hown2
 exact hown2
end JH
namespace JH
open JB JT JD
theorem qvs {s:ByteArray}{k:Nat}{c:UInt8}(hk:s.size=k+1)(hk2:k<16)(hc:(by_ s)[k]?=some c):qa9 s=(!bad (by_ s)&&!(32==c)):=by
 have hl:(by_ s).length=k+1:=by rw[qhj];exact hk
 have e:by_ s=(by_ s).take k++[c]:=by
  obtain⟨h1,h2⟩:=List.getElem?_eq_some_iff.1 hc
  rw[←h2,←List.take_succ_eq_append_getElem h1,List.take_of_length_le (by omega)]
 have hs:Lib.hasSuffix (by_ s) [32]=(32==c):=by
  rw[e];exact qt1 _ _
 unfold qa9
 rw[hs]
 have h1:1≤s.size:=by omega
 have h2:s.size≤16:=by omega
 simp[h1,h2]
theorem at_by (s:ByteArray)(i:Nat)(h:i<s.size):(by_ s)[i]?=some (s[i]'h):=Lib.data_getElem? s i h
theorem bad_of {s:ByteArray}{i:Nat}{c:UInt8}(h1:Lib.NoAny (by_ s) [10,0] i)(h2:(by_ s)[i]?=some c)(h3:([10,0]:List UInt8).contains c=true):bad (by_ s)=true:=by
 unfold bad Lib.containsAny
 rw[Lib.indexAny_hit h1 h2 h3]
 simp
theorem bad_none {s:ByteArray}{i:Nat}(h1:Lib.NoAny (by_ s) [10,0] i)(h2:s.size≤i):bad (by_ s)=false:=by
 unfold bad Lib.containsAny
 rw[Lib.indexAny_none (fun j b hj hb=>h1 j b (by rw[qhj] at hj;omega) hb)]
 simp
theorem qnb (s:ByteArray)(w:World)(hs:s.size≤140737488355328):
 Calls Tryz.prog 83 #[.string s] w fun e w'=>e=.returned (.bool (qa9 s))∧∃m,w'=w.drewN m:=by
 by_cases h1:s.size<1
 ·have Hr:Hid (qa9 s=false):=hid (by unfold qa9;simp;omega)
  go_enter Tryz.func83,Tryz.ntmps83
  go_wp2_with fail
  go_ret
  exact⟨qa0 Hr.out.symm,0,rfl⟩
 ·by_cases h2:16<s.size
  ·have Hr:Hid (qa9 s=false):=hid (by unfold qa9;simp;omega)
   go_enter Tryz.func83,Tryz.ntmps83
   go_wp2_with fail
   go_ret
   exact⟨qa0 Hr.out.symm,0,rfl⟩
  ·obtain⟨k,hk⟩:∃k,s.size=k+1:=⟨s.size-1,by omega⟩
   have hkl:k<s.size:=by omega
   have hz:(s.size:Int)-1=(k:Int):=by omega
   have Hk:=hid hk
   have Hlast:=hid fun c hc=>qvs (c:=c) hk (by omega) hc
   have Hc:=hid (at_by s k hkl)
   clear hk
   by_cases h32:s[k]=32
   ·have Hr:Hid (qa9 s=false):=hid (by rw[Hlast.out _ Hc.out,h32];simp)
    have hq:((s[k].toNat:Int)==32)=true:=by rw[h32];rfl
    clear h32
    go_enter Tryz.func83,Tryz.ntmps83
    go_wp2_with fail
    go_ret
    exact⟨qa0 Hr.out.symm,0,rfl⟩
   ·have Hr:Hid (qa9 s=!bad (by_ s)):=hid (by
     rw[Hlast.out _ Hc.out]
     have:((32:UInt8)==s[k])=false:=by rw[beq_eq_false_iff_ne];exact fun e=>h32 e.symm
     rw[this];simp)
    have hq:((s[k].toNat:Int)==32)=false:=by
     rw[beq_eq_false_iff_ne]
     intro e
     apply h32
     rw[←UInt8.toNat_inj]
     show s[k].toNat=32
     omega
    clear h32
    go_enter Tryz.func83,Tryz.ntmps83
    go_wp2_with fail
    go_loop [3] (fun i=>∃j:Nat,i=.int .i64 (j:Int)∧j≤s.size∧Lib.NoAny (by_ s) [10,0] j) (fun i=>s.size-qq9 i)
    case atStart=>exact⟨0,rfl,by omega,Lib.NoAny.zero _ _⟩
    case round=>
     obtain⟨j,rfl,hj,hno⟩:=hrel
     have Hno:=hid hno
     clear hno hq
     by_cases hlt:j<s.size
     ·have Hj:=hid (at_by s j hlt)
      obtain⟨x,hx⟩:∃x:UInt8,s[j]'hlt=x:=⟨_,rfl⟩
      rw[hx] at Hj
      by_cases hx1:x=10
      ·subst hx1
       have Hb:=hid (bad_of Hno.out Hj.out (by decide))
       have hx2:((s[j].toNat:Int)==10)=true:=by rw[hx];rfl
       clear hx
       go_wp2_with fail
       go_ret
       exact⟨qa0 (by rw[Hr.out,Hb.out];rfl),0,rfl⟩
      ·by_cases hx0:x=0
       ·subst hx0
        have Hb:=hid (bad_of Hno.out Hj.out (by decide))
        have hx2:((s[j].toNat:Int)==10)=false:=by rw[hx];rfl
        have hx3:((s[j].toNat:Int)==0)=true:=by rw[hx];rfl
        clear hx
        go_wp2_with fail
        go_ret
        exact⟨qa0 (by rw[Hr.out,Hb.out];rfl),0,rfl⟩
       ·have hc:([10,0]:List UInt8).contains x=false:=by simp[hx1,hx0]
        have Hn:=hid (Hno.out.succ Hj.out hc)
        have hx2:((s[j].toNat:Int)==10)=false:=by
         rw[hx,beq_eq_false_iff_ne];intro e;apply hx1;rw[←UInt8.toNat_inj];show x.toNat=10;omega
        have hx3:((s[j].toNat:Int)==0)=false:=by
         rw[hx,beq_eq_false_iff_ne];intro e;apply hx0;rw[←UInt8.toNat_inj];show x.toNat=0;omega
        clear hx hx1 hx0 hc
        go_wp2_with fail
        go_round
        case rel=>exact⟨j+1,by go_num,by omega,Hn.out⟩
        case measure=>simp[qq9];omega
     ·have Hb:=hid (bad_none Hno.out (by omega))
      go_wp2_with fail
      go_ret
      exact⟨qa0 (by rw[Hr.out,Hb.out];rfl),0,rfl⟩
end JH
namespace JH
open JB JT JD
set_option maxRecDepth 100000
def oa : Oper := { dst := some 75, op := .fieldAddr 126 (.tmp 1) 0, type := 0, pos := "ref.go:57", after := #[], guard := none }
def ob : Oper := { dst := some 76, op := .load 9 (.tmp 75), type := 9, pos := "ref.go:57", after := #[{ on := 0, ground := .data }], guard := none }
def oc : Oper := { dst := some 77, op := .convert 9 22 (.tmp 76), type := 22, pos := "ref.go:57", after := #[{ on := 1, ground := .data }], guard := none }
def od : Oper := { dst := some 78, op := .fieldAddr 126 (.tmp 1) 0, type := 0, pos := "ref.go:57", after := #[], guard := none }
def oe : Oper := { dst := some 79, op := .load 9 (.tmp 78), type := 9, pos := "ref.go:57", after := #[{ on := 3, ground := .data }], guard := none }
def of : Oper := { dst := some 80, op := .call { callee := .builtin .len, args := #[.tmp 79], argTypes := #[9] }, type := 3, pos := "ref.go:57", after := #[{ on := 4, ground := .data }], guard := none }
def og : Oper := { dst := some 81, op := .binOp .sub 3 (.const (.int .i64 16)) (.tmp 80) 3, type := 3, pos := "ref.go:57", after := #[{ on := 5, ground := .data }], guard := none }
def oh : Oper := { dst := some 82, op := .call { callee := .value (.func 89), args := #[.tmp 81], argTypes := #[3] }, type := 22, pos := "ref.go:57", after := #[{ on := 6, ground := .data }], guard := none }
def oi : Oper := { dst := some 83, op := .call { callee := .builtin .append, args := #[.tmp 77, .tmp 82], argTypes := #[22, 22] }, type := 22, pos := "ref.go:57", after := #[{ on := 2, ground := .data }, { on := 7, ground := .data }, { on := 7, ground := .chain }], guard := none }
def oj : Oper := { dst := some 15, op := .assign (.tmp 83), type := 22, pos := "ref.go:57", after := #[{ on := 8, ground := .data }, { on := 8, ground := .chain }, { on := 0, ground := .phase }, { on := 1, ground := .phase }, { on := 2, ground := .phase },
 {on:=3,ground:=.phase},{on:=4,ground:=.phase},{on:=5,ground:=.phase},{on:=6,ground:=.phase},{on:=7,ground:=.phase},{on:=8,ground:=.phase}],guard:=none}
def qay:Array Oper:=#[oa,ob,oc,od,oe,of,og,oh,oi,oj]
def qnc (a0 a:Act):Prop:=a.defers=a0.defers∧a.tmps.size=a0.tmps.size∧∀k,k≠15→(k<75∨83<k)→a.tmps[k]?=a0.tmps[k]?
theorem qnc.put {a0 a:Act}(h:qnc a0 a)(d:Nat)(hd:75≤d∧d≤83)(v:Value):qnc a0 (a.put (some d) v):=by
 refine⟨h.1,by simp[Act.put];exact h.2.1,fun k h15 hk=>?_⟩
 show (a.tmps.setIfInBounds d v)[k]?=_
 rw[Array.getElem?_setIfInBounds_ne (by omega)]
 exact h.2.2 k h15 hk
theorem qnc.put15 {a0 a:Act}(h:qnc a0 a)(v:Value):qnc a0 (a.put (some 15) v):=by
 refine⟨h.1,by simp[Act.put];exact h.2.1,fun k h15 hk=>?_⟩
 show (a.tmps.setIfInBounds 15 v)[k]?=_
 rw[Array.getElem?_setIfInBounds_ne (by omega)]
 exact h.2.2 k h15 hk
theorem qcy {a:Act}{d:Nat}(hd:d<a.tmps.size)(v:Value):(a.put (some d) v).eval (.tmp d)=v:=by
 show (a.tmps.setIfInBounds d v).getD d undef=v
 simp[Array.getD_eq_getD_getElem?,hd]
theorem qah {a:Act}{d k:Nat}(h:d≠k)(v:Value):(a.put (some d) v).eval (.tmp k)=a.eval (.tmp k):=by
 show (a.tmps.setIfInBounds d v).getD k undef=a.tmps.getD k undef
 rw[Array.getD_eq_getD_getElem?,Array.getD_eq_getD_getElem?,Array.getElem?_setIfInBounds_ne h]
theorem qnc.one {a0 a:Act}(h:qnc a0 a):a.eval (.tmp 1)=a0.eval (.tmp 1):=by
 show a.tmps.getD 1 undef=a0.tmps.getD 1 undef
 rw[Array.getD_eq_getD_getElem?,Array.getD_eq_getD_getElem?,h.2.2 1 (by omega) (by omega)]
def built (a0:Act)(u75 u76 u77 u78 u79 u80 u81 u82 u83 v:Value):Act:=
 (((((((((a0.put (some 75) u75).put (some 76) u76).put (some 77) u77).put (some 78) u78).put (some 79) u79).put (some 80) u80).put (some 81) u81).put (some 82) u82).put (some 83) u83).put (some 15) v
theorem qnc.rebuilt {a0 a:Act}(h:qnc a0 a)(hz:a0.tmps.size=98):a=built a0 (a.eval (.tmp 75)) (a.eval (.tmp 76)) (a.eval (.tmp 77)) (a.eval (.tmp 78)) (a.eval (.tmp 79)) (a.eval (.tmp 80)) (a.eval (.tmp 81)) (a.eval (.tmp 82)) (a.eval (.tmp 83)) (a.eval (.tmp 15)):=by
 obtain⟨tm,df⟩:=a
 obtain⟨h1,h2,h3⟩:=h
 simp only at h1 h2 h3
 subst h1
 unfold built Act.put Act.eval
 simp only[Act.mk.injEq,and_true]
 apply Array.ext_getElem?
 intro k
 have hk:k=15∨k=75∨k=76∨k=77∨k=78∨k=79∨k=80∨k=81∨k=82∨k=83∨(k≠15∧(k<75∨83<k)):=by omega
 rcases hk with rfl|rfl|rfl|rfl|rfl|rfl|rfl|rfl|rfl|rfl|⟨hk1,hk2⟩
 iterate 10
  ·simp[hz,Array.getD_eq_getD_getElem?,h2]
 ·rw[h3 k hk1 hk2]
  repeat rw[Array.getElem?_setIfInBounds_ne (by omega)]
theorem doOp {ops:Array Oper}{Q:Exit→Act→World→Prop}{i:Nat}{o:Oper}{K:Act→World→Prop}{a:Act}{w:World}(ho:ops[i]?=some o)(hg:o.guard=none)(h:o.wp Tryz.prog a w K Q):wpOp Tryz.prog ops Q i K a w:=by
 unfold wpOp
 rw[ho]
 simp only[Region.wanted,hg,if_true]
 exact .inl h
theorem qx9 (w:World)(K:Nat)(ty:TypeId)(v:Value)(n:Nat)(l:List UInt8)(hown:Own w K v n l)(hK:K≤w.heap.size)(A:Option Addr)(k c B:Nat)(src:List UInt8)(hr:Rd w B A k src)(hsz:n+k≤140737488355328):
 ∃v' w',(Builtin.append_ #[22,22] ty #[v,.slice A k c]).run Tryz.prog w=.ok v' w'∧Own w' K v' (n+k) (l++src)∧Below K w w':=by
 rcases A with _|ad
 ·have hk:k=0:=by
   rcases Nat.eq_zero_or_pos k with h0|h0
   ·exact h0
   ·obtain⟨b,o',e,_⟩:=hr.2 0 (by have:=hr.1;omega)
    cases e
  subst hk
  have hn:src=[]:=List.eq_nil_of_length_eq_zero hr.1
  subst hn
  obtain⟨i,hi,hz0,hz1,hz2⟩:=info_parts qiw
  have ht:=Tryz.underlying22
  refine⟨v,w,?_,by simpa using hown,Below.refl _ _⟩
  rcases hown.2 with ⟨rfl,rfl⟩|⟨g,cap,cur,m,rfl,_,_,hnc,_⟩
  ·simp[Builtin.append_,run_underlying ht,sizeOf,typeInfo,hi,Builtin.lenOf,Builtin.firstCells]
  ·simp[Builtin.append_,run_underlying ht,sizeOf,typeInfo,hi,Builtin.lenOf,Builtin.firstCells,hnc,storeCells]
 ·refine qgj w K ty v n l hown hK ad k c src hr.1 (fun j u hj=>?_) hsz
  unfold enc at hj
  rw[List.getElem?_map] at hj
  rcases hx:src[j]? with _|y
  ·rw[hx] at hj;cases hj
  ·rw[hx] at hj
   obtain⟨hlt,rfl⟩:=List.getElem?_eq_some_iff.1 hx
   obtain⟨b,o',e,_,hc⟩:=hr.2 j hlt
   injection e with e
   subst e
   have ha:(⟨b,o',none⟩:Addr).add j=⟨b,o'+j,none⟩:=by unfold Addr.add;split<;>simp_all
   rw[ha,hc]
   exact hj
section
variable {Q : Exit → Act → World → Prop} {K' : Act → World → Prop} {a : Act} {w : World} {K B : Nat} {s : ByteArray}
theorem Qb8 {d:Nat}{o:Oper}(ho:o.op=.fieldAddr 126 (.tmp 1) 0)(hd:o.dst=some d)(hp:a.eval (.tmp 1)=.pointer (some ⟨B,0,none⟩))(h:K' (a.put (some d) (.pointer (some ⟨B,0,none⟩))) w):o.wp Tryz.prog a w K' Q:=by
 have hr:(Go.Instr.fieldAt 126 (.pointer (some ⟨B,0,none⟩)) 0).run Tryz.prog w=Go.Result.ok (.pointer (some ⟨B,0,none⟩)) w:=by kernel_rfl
 unfold Oper.wp execOp
 simp only[ho,hp,Sem.run_bind,Sem.run_pure,hr,Result.andThen_ok,Oper.upon,hd]
 exact h
theorem Qb9 {d f:Nat}{o:Oper}(ho:o.op=.load 9 (.tmp f))(hd:o.dst=some d)(hp:a.eval (.tmp f)=.pointer (some ⟨B,0,none⟩))(hc:w.cell? ⟨B,0,none⟩=some (.string s))(h:K' (a.put (some d) (.string s)) w):o.wp Tryz.prog a w K' Q:=by
 have hr:(Go.Instr.loadAt 9 (.pointer (some ⟨B,0,none⟩))).run Tryz.prog w=Go.Result.ok (.string s) w:=by simp[go_sem,hc]
 unfold Oper.wp execOp
 simp only[ho,hp,Sem.run_bind,Sem.run_pure,hr,Result.andThen_ok,Oper.upon,hd]
 exact h
theorem wp_conv (hp:a.eval (.tmp 76)=.string s)(hs:s.size≤16)(hK:K≤w.heap.size)(h:∀v w',Own w' K v s.size (by_ s)→Below w.heap.size w w'→K' (a.put (some 77) v) w'):oc.wp Tryz.prog a w K' Q:=by
 have hrun:=run_bytes_of_string (P:=Tryz.prog) w 9 22 5 s Tryz.underlying9 Tryz.underlying22 Tryz.underlying5
 have hl:=qhj s
 unfold Oper.wp execOp
 simp only[oc,hp,Sem.run_bind,Sem.run_pure,hrun,Result.andThen_ok,Oper.upon]
 refine h _ _ ⟨hl,.inr ⟨w.heap.size,_,_,_,rfl,hK,heap_alloc_new w.drew _,grownCap_ge _ _ _ _,grownCap_le_maxLen _ _ _ _ (by unfold maxLen;omega),?_,?_,?_⟩⟩ ((Below.refl _ w).drew.alloc zjn _)
 ·have:=grownCap_ge w s.size 0 5
  have h2:s.data.size=s.size:=rfl
  simp[bytesRow,h2];omega
 ·have h2:s.data.size=s.size:=rfl
  simp[bytesRow,enc,by_,h2]
 ·intro j hj
  have:=grownCap_ge w s.size 0 5
  simp[bytesRow];omega
theorem wp_len (hp:a.eval (.tmp 79)=.string s)(h:K' (a.put (some 80) (.int .i64 (s.size:Int))) w):of.wp Tryz.prog a w K' Q:=by
 unfold Oper.wp execOp
 simp only[of,resolve,invoke,builtin,Sem.run_bind,Sem.run_pure,Result.andThen_ok,List.map_toArray,List.map_cons,List.map_nil,hp]
 simp[go_sem]
 exact h
theorem wp_sub (hp:a.eval (.tmp 80)=.int .i64 (s.size:Int))(hs:s.size≤16)(h:K' (a.put (some 81) (.int .i64 ((16-s.size:Nat):Int))) w):og.wp Tryz.prog a w K' Q:=by
 have hc:a.eval (.const (.int .i64 16))=.int .i64 16:=rfl
 have e:=qvq hs
 unfold Oper.wp execOp
 simp only[og,hp,hc]
 simp[go_sem]
 have ew:IntKind.i64.wrap (16-(s.size:Int))=((16-s.size:Nat):Int):=by rw[wrap_small _ (by omega) (by omega)];exact e
 rw[ew]
 exact h
theorem wp_sp (hp:a.eval (.tmp 81)=.int .i64 ((16-s.size:Nat):Int))(h:∀v w',Own w' w.heap.size v (16-s.size) (List.replicate (16-s.size) 32)→Below w.heap.size w w'→K' (a.put (some 82) v) w'):oh.wp Tryz.prog a w K' Q:=by
 have hc:a.eval (.func 89)=.func (.func 89) #[] #[]:=rfl
 have hp':a.tmps[81]?.getD undef=.int .i64 ((16-s.size:Nat):Int):=by
  rw[←hp];exact (Array.getD_eq_getD_getElem?).symm
 unfold Oper.wp execOp
 simp only[oh,resolve,hc]
 simp[go_sem]
 rw[hp']
 refine (qn8 (16-s.size) w (by omega)).mono ?_
 rintro e w' ⟨v,rfl,h1,h2⟩
 exact h v w' h1 h2
theorem wp_app (h1:Own w K (a.eval (.tmp 77)) s.size (by_ s))(h2:Own w K (a.eval (.tmp 82)) (16-s.size) (List.replicate (16-s.size) 32))(hs:s.size≤16)(hK:K≤w.heap.size)
 (h:∀v w',Own w' K v 16 (by_ s++List.replicate (16-s.size) 32)→Below K w w'→K' (a.put (some 83) v) w'):oi.wp Tryz.prog a w K' Q:=by
 obtain⟨A,c,hv,hr,_,_⟩:=h2.reads
 have e1:s.size+(16-s.size)=16:=by omega
 obtain⟨v',w',hrun,g1,g2⟩:=qx9 w K oi.type _ s.size (by_ s) h1 hK A (16-s.size) c _ _ hr (by omega)
 rw[e1] at g1
 rw[←hv] at hrun
 unfold Oper.wp execOp
 have ho:oi.op=.call {callee:=.builtin .append,args:=#[.tmp 77,.tmp 82],argTypes:=#[22,22]}:=rfl
 simp only[ho,resolve,invoke,builtin,Sem.run_bind,Sem.run_pure,Result.andThen_ok,List.map_toArray,List.map_cons,List.map_nil,hrun]
 exact h v' w' g1 g2
theorem wp_asg (h:K' (a.put (some 15) (a.eval (.tmp 83))) w):oj.wp Tryz.prog a w K' Q:=by
 unfold Oper.wp execOp
 simp only[oj]
 exact h
end
section
variable {Q : Exit → Act → World → Prop} {a0 : Act} {w0 : World} {K B : Nat} {s : ByteArray}
def Sa (K B:Nat)(s:ByteArray)(i:Nat)(a:Act)(w:World):Prop:=
 (1≤i→a.eval (.tmp 75)=.pointer (some ⟨B,0,none⟩))∧(2≤i→a.eval (.tmp 76)=.string s)∧(3≤i→Own w K (a.eval (.tmp 77)) s.size (by_ s))
def Sb (K B:Nat)(s:ByteArray)(j:Nat)(a:Act)(w:World):Prop:=
 (1≤j→a.eval (.tmp 78)=.pointer (some ⟨B,0,none⟩))∧(2≤j→a.eval (.tmp 79)=.string s)∧(3≤j→a.eval (.tmp 80)=.int .i64 (s.size:Int))∧(4≤j→a.eval (.tmp 81)=.int .i64 ((16-s.size:Nat):Int))∧
  (5≤j→Own w K (a.eval (.tmp 82)) (16-s.size) (List.replicate (16-s.size) 32))
structure St (a0:Act) (w0:World) (K B:Nat) (s:ByteArray) (i j:Nat) (a:Act) (w:World):Prop where
 keeps:qnc a0 a
 below:Below K w0 w
 sa:Sa K B s i a w
 sb:Sb K B s j a w
structure Fix (a0:Act) (w0:World) (K B:Nat) (s:ByteArray):Prop where
 size:a0.tmps.size=98
 one:a0.eval (.tmp 1)=.pointer (some ⟨B,0,none⟩)
 name:w0.cell? ⟨B,0,none⟩=some (.string s)
 lt:B<K
 le:K≤w0.heap.size
 small:s.size≤16
theorem Sb.put {j:Nat}{a:Act}{w w':World}(h:Sb K B s j a w)(hb:Below w.heap.size w w'){d:Nat}(hd:d≤77)(v:Value):Sb K B s j (a.put (some d) v) w':=by
 obtain⟨h1,h2,h3,h4,h5⟩:=h
 refine⟨fun hj=>?_,fun hj=>?_,fun hj=>?_,fun hj=>?_,fun hj=>?_⟩
 ·rw[qah (by omega)];exact h1 hj
 ·rw[qah (by omega)];exact h2 hj
 ·rw[qah (by omega)];exact h3 hj
 ·rw[qah (by omega)];exact h4 hj
 ·rw[qah (by omega)];exact (h5 hj).below hb
theorem Sa.put {i:Nat}{a:Act}{w w':World}(h:Sa K B s i a w)(hb:Below w.heap.size w w'){d:Nat}(hd:78≤d)(v:Value):Sa K B s i (a.put (some d) v) w':=by
 obtain⟨h1,h2,h3⟩:=h
 refine⟨fun hj=>?_,fun hj=>?_,fun hj=>?_⟩
 ·rw[qah (by omega)];exact h1 hj
 ·rw[qah (by omega)];exact h2 hj
 ·rw[qah (by omega)];exact (h3 hj).below hb
theorem St.one {i j:Nat}{a:Act}{w:World}(h:St a0 w0 K B s i j a w)(F:Fix a0 w0 K B s):a.eval (.tmp 1)=.pointer (some ⟨B,0,none⟩):=h.keeps.one.trans F.one
theorem St.size {i j:Nat}{a:Act}{w:World}(h:St a0 w0 K B s i j a w)(F:Fix a0 w0 K B s):a.tmps.size=98:=h.keeps.2.1.trans F.size
theorem St.name {i j:Nat}{a:Act}{w:World}(h:St a0 w0 K B s i j a w)(F:Fix a0 w0 K B s):w.cell? ⟨B,0,none⟩=some (.string s):=by
 rw[h.below.cell (p:=⟨B,0,none⟩) F.lt];exact F.name
theorem St.le {i j:Nat}{a:Act}{w:World}(h:St a0 w0 K B s i j a w)(F:Fix a0 w0 K B s):K≤w.heap.size:=Nat.le_trans F.le h.below.size
variable {K' : Act → World → Prop} {j i : Nat} {a : Act} {w : World}
theorem goA0 (F:Fix a0 w0 K B s)(h:St a0 w0 K B s 0 j a w)(n:∀a w,St a0 w0 K B s 1 j a w→K' a w):wpOp Tryz.prog qay Q 0 K' a w:=by
 refine doOp (o:=oa) rfl rfl (Qb8 rfl rfl (h.one F) (n _ _ ⟨h.keeps.put 75 (by omega) _,h.below,⟨fun _=>?_,fun hx=>by omega,fun hx=>by omega⟩,h.sb.put zjb (by omega) _⟩))
 exact qcy (by rw[h.size F];omega) _
theorem goA1 (F:Fix a0 w0 K B s)(h:St a0 w0 K B s 1 j a w)(n:∀a w,St a0 w0 K B s 2 j a w→K' a w):wpOp Tryz.prog qay Q 1 K' a w:=by
 refine doOp (o:=ob) rfl rfl (Qb9 rfl rfl (h.sa.1 (by omega)) (h.name F) (n _ _ ⟨h.keeps.put 76 (by omega) _,h.below,⟨fun _=>?_,fun _=>?_,fun hx=>by omega⟩,h.sb.put zjb (by omega) _⟩))
 ·rw[qah (by omega)];exact h.sa.1 (by omega)
 ·exact qcy (by rw[h.size F];omega) _
theorem goA2 (F:Fix a0 w0 K B s)(h:St a0 w0 K B s 2 j a w)(n:∀a w,St a0 w0 K B s 3 j a w→K' a w):wpOp Tryz.prog qay Q 2 K' a w:=by
 refine doOp (o:=oc) rfl rfl (wp_conv (K:=K) (h.sa.2.1 (by omega)) F.small (h.le F) fun v w' h1 h2=>n _ _ ⟨h.keeps.put 77 (by omega) _,h.below.trans (h2.mono (h.le F)),⟨fun _=>?_,fun _=>?_,fun _=>?_⟩,h.sb.put h2 (by omega) _⟩)
 ·rw[qah (by omega)];exact h.sa.1 (by omega)
 ·rw[qah (by omega)];exact h.sa.2.1 (by omega)
 ·rw[qcy (by rw[h.size F];omega)];exact h1
theorem goB0 (F:Fix a0 w0 K B s)(h:St a0 w0 K B s i 0 a w)(n:∀a w,St a0 w0 K B s i 1 a w→K' a w):wpOp Tryz.prog qay Q 3 K' a w:=by
 refine doOp (o:=od) rfl rfl (Qb8 rfl rfl (h.one F) (n _ _ ⟨h.keeps.put 78 (by omega) _,h.below,h.sa.put zjb (by omega) _,⟨fun _=>?_,fun hx=>by omega,fun hx=>by omega,fun hx=>by omega,fun hx=>by omega⟩⟩))
 exact qcy (by rw[h.size F];omega) _
theorem goB1 (F:Fix a0 w0 K B s)(h:St a0 w0 K B s i 1 a w)(n:∀a w,St a0 w0 K B s i 2 a w→K' a w):wpOp Tryz.prog qay Q 4 K' a w:=by
 refine doOp (o:=oe) rfl rfl (Qb9 rfl rfl (h.sb.1 (by omega)) (h.name F) (n _ _ ⟨h.keeps.put 79 (by omega) _,h.below,h.sa.put zjb (by omega) _,⟨fun _=>?_,fun _=>?_,fun hx=>by omega,fun hx=>by omega,fun hx=>by omega⟩⟩))
 ·rw[qah (by omega)];exact h.sb.1 (by omega)
 ·exact qcy (by rw[h.size F];omega) _
theorem goB2 (F:Fix a0 w0 K B s)(h:St a0 w0 K B s i 2 a w)(n:∀a w,St a0 w0 K B s i 3 a w→K' a w):wpOp Tryz.prog qay Q 5 K' a w:=by
 refine doOp (o:=of) rfl rfl (wp_len (h.sb.2.1 (by omega)) (n _ _ ⟨h.keeps.put 80 (by omega) _,h.below,h.sa.put zjb (by omega) _,⟨fun _=>?_,fun _=>?_,fun _=>?_,fun hx=>by omega,fun hx=>by omega⟩⟩))
 ·rw[qah (by omega)];exact h.sb.1 (by omega)
 ·rw[qah (by omega)];exact h.sb.2.1 (by omega)
 ·exact qcy (by rw[h.size F];omega) _
theorem goB3 (F:Fix a0 w0 K B s)(h:St a0 w0 K B s i 3 a w)(n:∀a w,St a0 w0 K B s i 4 a w→K' a w):wpOp Tryz.prog qay Q 6 K' a w:=by
 refine doOp (o:=og) rfl rfl (wp_sub (h.sb.2.2.1 (by omega)) F.small (n _ _ ⟨h.keeps.put 81 (by omega) _,h.below,h.sa.put zjb (by omega) _,⟨fun _=>?_,fun _=>?_,fun _=>?_,fun _=>?_,fun hx=>by omega⟩⟩))
 ·rw[qah (by omega)];exact h.sb.1 (by omega)
 ·rw[qah (by omega)];exact h.sb.2.1 (by omega)
 ·rw[qah (by omega)];exact h.sb.2.2.1 (by omega)
 ·exact qcy (by rw[h.size F];omega) _
theorem goB4 (F:Fix a0 w0 K B s)(h:St a0 w0 K B s i 4 a w)(n:∀a w,St a0 w0 K B s i 5 a w→K' a w):wpOp Tryz.prog qay Q 7 K' a w:=by
 refine doOp (o:=oh) rfl rfl (wp_sp (h.sb.2.2.2.1 (by omega)) fun v w' h1 h2=>n _ _ ⟨h.keeps.put 82 (by omega) _,h.below.trans (h2.mono (h.le F)),h.sa.put h2 (by omega) _,⟨fun _=>?_,fun _=>?_,fun _=>?_,fun _=>?_,fun _=>?_⟩⟩)
 ·rw[qah (by omega)];exact h.sb.1 (by omega)
 ·rw[qah (by omega)];exact h.sb.2.1 (by omega)
 ·rw[qah (by omega)];exact h.sb.2.2.1 (by omega)
 ·rw[qah (by omega)];exact h.sb.2.2.2.1 (by omega)
 ·rw[qcy (by rw[h.size F];omega)];exact h1.more (h.le F)
theorem region11 {id:Nat}(F:Fix a0 w0 K B s)(hQ:∀u75 u76 u77 u78 u79 u80 u81 u82 u83 v w,Own w K v 16 (by_ s++List.replicate (16-s.size) 32)→Below K w0 w→Q .normal (built a0 u75 u76 u77 u78 u79 u80 u81 u82 u83 v) w):(Code.region id qay true).wp Tryz.prog Q a0 w0:=by
 have T35:∀a w,St a0 w0 K B s 3 5 a w→wpAny Tryz.prog .any qay Q 2 #[true,true,true,true,true,true,true,true,false,false] a w:=fun a w h=>by
  have er:Region.ready .any qay #[true,true,true,true,true,true,true,true,false,false]=[8]:=by kernel_rfl
  refine⟨fun hr=>(by rw[er] at hr;cases hr),fun k hk=>?_⟩
  rw[er] at hk
  have hk':=List.mem_singleton.1 hk
  subst hk'
  refine doOp (o:=oi) rfl rfl (wp_app (h.sa.2.2 (by omega)) (h.sb.2.2.2.2 (by omega)) F.small (h.le F) fun v w' h1 h2=>?_)
  have er2:Region.ready .any qay (#[true,true,true,true,true,true,true,true,false,false].setIfInBounds 8 true)=[9]:=by kernel_rfl
  refine⟨fun hr=>(by rw[er2] at hr;cases hr),fun k hk=>?_⟩
  rw[er2] at hk
  have hk':=List.mem_singleton.1 hk
  subst hk'
  refine doOp (o:=oj) rfl rfl (wp_asg ?_)
  refine⟨by kernel_rfl,?_⟩
  have hkp:=((h.keeps.put 83 (by omega) v).put15 ((a.put (some 83) v).eval (.tmp 83)))
  rw[hkp.rebuilt F.size]
  refine hQ _ _ _ _ _ _ _ _ _ _ _ ?_ (h.below.trans h2)
  rw[qcy (by have:=h.size F;simp[Act.put];omega),qcy (by rw[h.size F];omega)]
  exact h1
 have T34:∀a w,St a0 w0 K B s 3 4 a w→wpAny Tryz.prog .any qay Q 3 #[true,true,true,true,true,true,true,false,false,false] a w:=fun a w h=>by
  have er:Region.ready .any qay #[true,true,true,true,true,true,true,false,false,false]=[7]:=by kernel_rfl
  refine⟨fun hr=>(by rw[er] at hr;cases hr),fun k hk=>?_⟩
  rw[er] at hk
  have hk':=hk
  rw[List.mem_singleton] at hk'
  subst hk'
  exact goB4 F h T35
 have T25:∀a w,St a0 w0 K B s 2 5 a w→wpAny Tryz.prog .any qay Q 3 #[true,true,false,true,true,true,true,true,false,false] a w:=fun a w h=>by
  have er:Region.ready .any qay #[true,true,false,true,true,true,true,true,false,false]=[2]:=by kernel_rfl
  refine⟨fun hr=>(by rw[er] at hr;cases hr),fun k hk=>?_⟩
  rw[er] at hk
  have hk':=hk
  rw[List.mem_singleton] at hk'
  subst hk'
  exact goA2 F h T35
 have T33:∀a w,St a0 w0 K B s 3 3 a w→wpAny Tryz.prog .any qay Q 4 #[true,true,true,true,true,true,false,false,false,false] a w:=fun a w h=>by
  have er:Region.ready .any qay #[true,true,true,true,true,true,false,false,false,false]=[6]:=by kernel_rfl
  refine⟨fun hr=>(by rw[er] at hr;cases hr),fun k hk=>?_⟩
  rw[er] at hk
  have hk':=hk
  rw[List.mem_singleton] at hk'
  subst hk'
  exact goB3 F h T34
 have T24:∀a w,St a0 w0 K B s 2 4 a w→wpAny Tryz.prog .any qay Q 4 #[true,true,false,true,true,true,true,false,false,false] a w:=fun a w h=>by
  have er:Region.ready .any qay #[true,true,false,true,true,true,true,false,false,false]=[2,7]:=by kernel_rfl
  refine⟨fun hr=>(by rw[er] at hr;cases hr),fun k hk=>?_⟩
  rw[er] at hk
  have hk':=hk
  rw[List.mem_cons,List.mem_singleton] at hk'
  rcases hk' with rfl|rfl
  ·exact goA2 F h T34
  ·exact goB4 F h T25
 have T15:∀a w,St a0 w0 K B s 1 5 a w→wpAny Tryz.prog .any qay Q 4 #[true,false,false,true,true,true,true,true,false,false] a w:=fun a w h=>by
  have er:Region.ready .any qay #[true,false,false,true,true,true,true,true,false,false]=[1]:=by kernel_rfl
  refine⟨fun hr=>(by rw[er] at hr;cases hr),fun k hk=>?_⟩
  rw[er] at hk
  have hk':=hk
  rw[List.mem_singleton] at hk'
  subst hk'
  exact goA1 F h T25
 have T32:∀a w,St a0 w0 K B s 3 2 a w→wpAny Tryz.prog .any qay Q 5 #[true,true,true,true,true,false,false,false,false,false] a w:=fun a w h=>by
  have er:Region.ready .any qay #[true,true,true,true,true,false,false,false,false,false]=[5]:=by kernel_rfl
  refine⟨fun hr=>(by rw[er] at hr;cases hr),fun k hk=>?_⟩
  rw[er] at hk
  have hk':=hk
  rw[List.mem_singleton] at hk'
  subst hk'
  exact goB2 F h T33
 have T23:∀a w,St a0 w0 K B s 2 3 a w→wpAny Tryz.prog .any qay Q 5 #[true,true,false,true,true,true,false,false,false,false] a w:=fun a w h=>by
  have er:Region.ready .any qay #[true,true,false,true,true,true,false,false,false,false]=[2,6]:=by kernel_rfl
  refine⟨fun hr=>(by rw[er] at hr;cases hr),fun k hk=>?_⟩
  rw[er] at hk
  have hk':=hk
  rw[List.mem_cons,List.mem_singleton] at hk'
  rcases hk' with rfl|rfl
  ·exact goA2 F h T33
  ·exact goB3 F h T24
 have T14:∀a w,St a0 w0 K B s 1 4 a w→wpAny Tryz.prog .any qay Q 5 #[true,false,false,true,true,true,true,false,false,false] a w:=fun a w h=>by
  have er:Region.ready .any qay #[true,false,false,true,true,true,true,false,false,false]=[1,7]:=by kernel_rfl
  refine⟨fun hr=>(by rw[er] at hr;cases hr),fun k hk=>?_⟩
  rw[er] at hk
  have hk':=hk
  rw[List.mem_cons,List.mem_singleton] at hk'
  rcases hk' with rfl|rfl
  ·exact goA1 F h T24
  ·exact goB4 F h T15
 have T05:∀a w,St a0 w0 K B s 0 5 a w→wpAny Tryz.prog .any qay Q 5 #[false,false,false,true,true,true,true,true,false,false] a w:=fun a w h=>by
  have er:Region.ready .any qay #[false,false,false,true,true,true,true,true,false,false]=[0]:=by kernel_rfl
  refine⟨fun hr=>(by rw[er] at hr;cases hr),fun k hk=>?_⟩
  rw[er] at hk
  have hk':=hk
  rw[List.mem_singleton] at hk'
  subst hk'
  exact goA0 F h T15
 have T31:∀a w,St a0 w0 K B s 3 1 a w→wpAny Tryz.prog .any qay Q 6 #[true,true,true,true,false,false,false,false,false,false] a w:=fun a w h=>by
  have er:Region.ready .any qay #[true,true,true,true,false,false,false,false,false,false]=[4]:=by kernel_rfl
  refine⟨fun hr=>(by rw[er] at hr;cases hr),fun k hk=>?_⟩
  rw[er] at hk
  have hk':=hk
  rw[List.mem_singleton] at hk'
  subst hk'
  exact goB1 F h T32
 have T22:∀a w,St a0 w0 K B s 2 2 a w→wpAny Tryz.prog .any qay Q 6 #[true,true,false,true,true,false,false,false,false,false] a w:=fun a w h=>by
  have er:Region.ready .any qay #[true,true,false,true,true,false,false,false,false,false]=[2,5]:=by kernel_rfl
  refine⟨fun hr=>(by rw[er] at hr;cases hr),fun k hk=>?_⟩
  rw[er] at hk
  have hk':=hk
  rw[List.mem_cons,List.mem_singleton] at hk'
  rcases hk' with rfl|rfl
  ·exact goA2 F h T32
  ·exact goB2 F h T23
 have T13:∀a w,St a0 w0 K B s 1 3 a w→wpAny Tryz.prog .any qay Q 6 #[true,false,false,true,true,true,false,false,false,false] a w:=fun a w h=>by
  have er:Region.ready .any qay #[true,false,false,true,true,true,false,false,false,false]=[1,6]:=by kernel_rfl
  refine⟨fun hr=>(by rw[er] at hr;cases hr),fun k hk=>?_⟩
  rw[er] at hk
  have hk':=hk
  rw[List.mem_cons,List.mem_singleton] at hk'
  rcases hk' with rfl|rfl
  ·exact goA1 F h T23
  ·exact goB3 F h T14
 have T04:∀a w,St a0 w0 K B s 0 4 a w→wpAny Tryz.prog .any qay Q 6 #[false,false,false,true,true,true,true,false,false,false] a w:=fun a w h=>by
  have er:Region.ready .any qay #[false,false,false,true,true,true,true,false,false,false]=[0,7]:=by kernel_rfl
  refine⟨fun hr=>(by rw[er] at hr;cases hr),fun k hk=>?_⟩
  rw[er] at hk
  have hk':=hk
  rw[List.mem_cons,List.mem_singleton] at hk'
  rcases hk' with rfl|rfl
  ·exact goA0 F h T14
  ·exact goB4 F h T05
 have T30:∀a w,St a0 w0 K B s 3 0 a w→wpAny Tryz.prog .any qay Q 7 #[true,true,true,false,false,false,false,false,false,false] a w:=fun a w h=>by
  have er:Region.ready .any qay #[true,true,true,false,false,false,false,false,false,false]=[3]:=by kernel_rfl
  refine⟨fun hr=>(by rw[er] at hr;cases hr),fun k hk=>?_⟩
  rw[er] at hk
  have hk':=hk
  rw[List.mem_singleton] at hk'
  subst hk'
  exact goB0 F h T31
 have T21:∀a w,St a0 w0 K B s 2 1 a w→wpAny Tryz.prog .any qay Q 7 #[true,true,false,true,false,false,false,false,false,false] a w:=fun a w h=>by
  have er:Region.ready .any qay #[true,true,false,true,false,false,false,false,false,false]=[2,4]:=by kernel_rfl
  refine⟨fun hr=>(by rw[er] at hr;cases hr),fun k hk=>?_⟩
  rw[er] at hk
  have hk':=hk
  rw[List.mem_cons,List.mem_singleton] at hk'
  rcases hk' with rfl|rfl
  ·exact goA2 F h T31
  ·exact goB1 F h T22
 have T12:∀a w,St a0 w0 K B s 1 2 a w→wpAny Tryz.prog .any qay Q 7 #[true,false,false,true,true,false,false,false,false,false] a w:=fun a w h=>by
  have er:Region.ready .any qay #[true,false,false,true,true,false,false,false,false,false]=[1,5]:=by kernel_rfl
  refine⟨fun hr=>(by rw[er] at hr;cases hr),fun k hk=>?_⟩
  rw[er] at hk
  have hk':=hk
  rw[List.mem_cons,List.mem_singleton] at hk'
  rcases hk' with rfl|rfl
  ·exact goA1 F h T22
  ·exact goB2 F h T13
 have T03:∀a w,St a0 w0 K B s 0 3 a w→wpAny Tryz.prog .any qay Q 7 #[false,false,false,true,true,true,false,false,false,false] a w:=fun a w h=>by
  have er:Region.ready .any qay #[false,false,false,true,true,true,false,false,false,false]=[0,6]:=by kernel_rfl
  refine⟨fun hr=>(by rw[er] at hr;cases hr),fun k hk=>?_⟩
  rw[er] at hk
  have hk':=hk
  rw[List.mem_cons,List.mem_singleton] at hk'
  rcases hk' with rfl|rfl
  ·exact goA0 F h T13
  ·exact goB3 F h T04
 have T20:∀a w,St a0 w0 K B s 2 0 a w→wpAny Tryz.prog .any qay Q 8 #[true,true,false,false,false,false,false,false,false,false] a w:=fun a w h=>by
  have er:Region.ready .any qay #[true,true,false,false,false,false,false,false,false,false]=[2,3]:=by kernel_rfl
  refine⟨fun hr=>(by rw[er] at hr;cases hr),fun k hk=>?_⟩
  rw[er] at hk
  have hk':=hk
  rw[List.mem_cons,List.mem_singleton] at hk'
  rcases hk' with rfl|rfl
  ·exact goA2 F h T30
  ·exact goB0 F h T21
 have T11:∀a w,St a0 w0 K B s 1 1 a w→wpAny Tryz.prog .any qay Q 8 #[true,false,false,true,false,false,false,false,false,false] a w:=fun a w h=>by
  have er:Region.ready .any qay #[true,false,false,true,false,false,false,false,false,false]=[1,4]:=by kernel_rfl
  refine⟨fun hr=>(by rw[er] at hr;cases hr),fun k hk=>?_⟩
  rw[er] at hk
  have hk':=hk
  rw[List.mem_cons,List.mem_singleton] at hk'
  rcases hk' with rfl|rfl
  ·exact goA1 F h T21
  ·exact goB1 F h T12
 have T02:∀a w,St a0 w0 K B s 0 2 a w→wpAny Tryz.prog .any qay Q 8 #[false,false,false,true,true,false,false,false,false,false] a w:=fun a w h=>by
  have er:Region.ready .any qay #[false,false,false,true,true,false,false,false,false,false]=[0,5]:=by kernel_rfl
  refine⟨fun hr=>(by rw[er] at hr;cases hr),fun k hk=>?_⟩
  rw[er] at hk
  have hk':=hk
  rw[List.mem_cons,List.mem_singleton] at hk'
  rcases hk' with rfl|rfl
  ·exact goA0 F h T12
  ·exact goB2 F h T03
 have T10:∀a w,St a0 w0 K B s 1 0 a w→wpAny Tryz.prog .any qay Q 9 #[true,false,false,false,false,false,false,false,false,false] a w:=fun a w h=>by
  have er:Region.ready .any qay #[true,false,false,false,false,false,false,false,false,false]=[1,3]:=by kernel_rfl
  refine⟨fun hr=>(by rw[er] at hr;cases hr),fun k hk=>?_⟩
  rw[er] at hk
  have hk':=hk
  rw[List.mem_cons,List.mem_singleton] at hk'
  rcases hk' with rfl|rfl
  ·exact goA1 F h T20
  ·exact goB0 F h T11
 have T01:∀a w,St a0 w0 K B s 0 1 a w→wpAny Tryz.prog .any qay Q 9 #[false,false,false,true,false,false,false,false,false,false] a w:=fun a w h=>by
  have er:Region.ready .any qay #[false,false,false,true,false,false,false,false,false,false]=[0,4]:=by kernel_rfl
  refine⟨fun hr=>(by rw[er] at hr;cases hr),fun k hk=>?_⟩
  rw[er] at hk
  have hk':=hk
  rw[List.mem_cons,List.mem_singleton] at hk'
  rcases hk' with rfl|rfl
  ·exact goA0 F h T11
  ·exact goB1 F h T02
 have T00:∀a w,St a0 w0 K B s 0 0 a w→wpAny Tryz.prog .any qay Q 10 #[false,false,false,false,false,false,false,false,false,false] a w:=fun a w h=>by
  have er:Region.ready .any qay #[false,false,false,false,false,false,false,false,false,false]=[0,3]:=by kernel_rfl
  refine⟨fun hr=>(by rw[er] at hr;cases hr),fun k hk=>?_⟩
  rw[er] at hk
  have hk':=hk
  rw[List.mem_cons,List.mem_singleton] at hk'
  rcases hk' with rfl|rfl
  ·exact goA0 F h T10
  ·exact goB0 F h T01
 refine wp_region_any (by kernel_rfl) (T00 a0 _ ⟨⟨rfl,rfl,fun _ _ _=>rfl⟩,(Below.refl K w0).drew,⟨fun hx=>by omega,fun hx=>by omega,fun hx=>by omega⟩,⟨fun hx=>by omega,fun hx=>by omega,fun hx=>by omega,fun hx=>by omega,fun hx=>by omega⟩⟩)
end
end JH
namespace JH
open JB JT JD
theorem rf_ok (tab:Bool)(k:Nat)(n:Int):rfOk n (bs k) (wd k) (mo k&&tab)=okF tab k n:=rfl
theorem rf_out {tab:Bool}{k:Nat}{n:Int}(h:okF tab k n=true):Qb6 n (bs k) (wd k) (mo k&&tab)=qk4 tab k n:=by
 unfold Qb6 qk4
 unfold okF at h
 split
 ·rfl
 ·rename_i hm
  rw[if_neg hm,Bool.and_eq_true,decide_eq_true_eq,decide_eq_true_eq] at h
  have hw:=Qb3 k
  rw[(Qet (n:=n) (b:=bs k) (w:=wd k) ⟨bs_vb k,qfd.2 (by omega)⟩ ⟨h.1,by rw[Int.toNat_natCast];omega⟩).2,Int.toNat_natCast,Int.toNat_natCast]
theorem qrm {s:ByteArray}{f:Nat→Int}(h:qjb s f=0):qb3 s f 5=true:=by
 unfold qjb at h
 split at h
 ·split at h
  ·assumption
  ·omega
 ·omega
def IfOk (c:Bool)(P:Prop):Prop:=c=true→P
theorem qcz (tab:Bool)(k:Nat)(n:Int)(w:World)(hn:n<9223372036854775808)(c:Bool)(hc:okF tab k n=c):
 Calls Tryz.prog 88 #[.int .i64 n,.int .i64 (bs k:Int),.int .i64 (wd k:Int),.bool (mo k&&tab)] w fun e w'=>
  ∃v,e=.returned (.tuple #[v,.bool c])∧IfOk c (Own w' w.heap.size v (wd k) (qk4 tab k n))∧Below w.heap.size w w':=by
 refine (qz0 n (bs k) (wd k) (mo k&&tab) w hn (bs_vb k) (qfd.2 (by have:=Qb3 k;omega))).mono fun e w' ⟨v,h1,h2,h3⟩=>⟨v,?_,fun ht=>?_,h3⟩
 ·rw[h1,rf_ok,hc]
 ·rw[rf_out (hc.trans ht),qiv (hc.trans ht)] at h2
  exact h2
theorem qt4 (s:ByteArray)(t u g m z:Int)(w:World)(hs:s.size≤140737488355328)(h:qa9 s=false):
 Calls Tryz.prog 52 #[.agg #[.string s,.int .i64 t,.int .i64 u,.int .i64 g,.int .i64 m,.int .i64 z]] w (qcc s (num t u g m z) w):=by
 have Hf:=hid fun w' (hb:Below w.heap.size w w')=>qcc.empty (qx7 (f:=num t u g m z) h) hb
 go_enter Tryz.func52,Tryz.ntmps52
 go_wp2_with (go_at_call 83;refine (qnb s _ hs).mono ?_;rintro e w1 ⟨rfl,m1,hw1⟩;rw[h,hw1])
 go_ret2
 exact Hf.out _ (((Below.refl _ _).alloc zjn _).trans (qa1 _ _))
theorem qvt (s:ByteArray)(t u g m z:Int)(w:World)(h:qa9 s=true)(x0 x1 x2 x3 x4:Bool)(e0:okF (qa6 s) 0 t=x0)(e1:okF (qa6 s) 1 u=x1)(e2:okF (qa6 s) 2 g=x2)(e3:okF (qa6 s) 3 m=x3)(e4:okF (qa6 s) 4 z=x4)(hx:(x0&&x1&&x2&&x3&&x4)=false)(l0:t<9223372036854775808)(l1:u<9223372036854775808)(l2:g<9223372036854775808)(l3:m<9223372036854775808)(l4:z<9223372036854775808):
 Calls Tryz.prog 52 #[.agg #[.string s,.int .i64 t,.int .i64 u,.int .i64 g,.int .i64 m,.int .i64 z]] w (qcc s (num t u g m z) w):=by
 obtain⟨s1,s2,_,_⟩:=qbz.1 h
 have hall:qb3 s (num t u g m z) 5=false:=by
  show (((((true&&okF (qa6 s) 0 t)&&okF (qa6 s) 1 u)&&okF (qa6 s) 2 g)&&okF (qa6 s) 3 m)&&okF (qa6 s) 4 z)=false
  rw[e0,e1,e2,e3,e4,Bool.true_and];exact hx
 have H9:=hid fun w' (hb:Below w.heap.size w w')=>qcc.empty (qt0 h hall) hb
 have H0:=hid fun w'=>qcz (qa6 s) 0 t w' l0 x0 e0
 have H1:=hid fun w'=>qcz (qa6 s) 1 u w' l1 x1 e1
 have H2:=hid fun w'=>qcz (qa6 s) 2 g w' l2 x2 e2
 have H3:=hid fun w'=>qcz (qa6 s) 3 m w' l3 x3 e3
 have H4:=hid fun w'=>qcz (qa6 s) 4 z w' l4 x4 e4
 clear hall e0 e1 e2 e3 e4 l0 l1 l2 l3 l4
 have HbA:=hid (show Below w.heap.size w (w.alloc (.cells #[.string s,.int .i64 t,.int .i64 u,.int .i64 g,.int .i64 m,.int .i64 z] 126)) from (Below.refl _ _).alloc zjn _)
 go_enter Tryz.func52,Tryz.ntmps52
 go_wp2_with fail
 refine (qnb s _ (by omega)).mono ?_
 rintro e w1 ⟨rfl,m1,hw1⟩
 rw[h]
 have hat1:HAt w1 w.heap.size s t u g m z:=by rw[hw1];exact HAt.new w s t u g m z 126
 have Hb1:=hid (show Below w.heap.size w w1 by rw[hw1];exact HbA.out.trans (qa1 _ _))
 have hz1:w.heap.size<w1.heap.size:=hat1.2.2.2.2.2.2
 clear hw1 HbA
 obtain⟨c0,c1,c2,c3,c4,c5,_⟩:=hat1
 go_wp2_with fail
 refine (H0.out _).mono ?_
 rintro e w2 ⟨v0,rfl,ho0,hb2⟩
 have g2:=hb2
 have k2:=qa7 g2 hz1
 go_wp2_with fail
 refine (H1.out _).mono ?_
 rintro e w3 ⟨v1,rfl,ho1,hb3⟩
 have g3:=g2.trans (hb3.mono g2.size)
 have k3:=qa7 g3 hz1
 go_wp2_with fail
 refine (H2.out _).mono ?_
 rintro e w4 ⟨v2,rfl,ho2,hb4⟩
 have g4:=g3.trans (hb4.mono g3.size)
 have k4:=qa7 g4 hz1
 go_wp2_with fail
 refine (H3.out _).mono ?_
 rintro e w5 ⟨v3,rfl,ho3,hb5⟩
 have g5:=g4.trans (hb5.mono g4.size)
 have k5:=qa7 g5 hz1
 go_wp2_with fail
 refine (H4.out _).mono ?_
 rintro e w6 ⟨v4,rfl,ho4,hb6⟩
 have g6:=g5.trans (hb6.mono g5.size)
 have k6:=qa7 g6 hz1
 have HbF:=hid (Hb1.out.trans (g6.mono (Nat.le_of_lt hz1)))
 clear hb2 hb3 hb4 hb5 hb6 g2 g3 g4 g5 g6 ho0 ho1 ho2 ho3 ho4 k2 k3 k4 k5
 cases x0
 ·clear hx
  go_wp2_with fail
  go_ret2
  exact H9.out _ HbF.out
 ·cases x1
  ·clear hx
   go_wp2_with fail
   go_ret2
   exact H9.out _ HbF.out
  ·cases x2
   ·clear hx
    go_wp2_with fail
    go_ret2
    exact H9.out _ HbF.out
   ·cases x3
    ·clear hx
     go_wp2_with fail
     go_ret2
     exact H9.out _ HbF.out
    ·cases x4
     ·clear hx
      go_wp2_with fail
      go_ret2
      exact H9.out _ HbF.out
     ·cases hx
theorem qz1 (s:ByteArray)(t u g m z:Int)(w:World)(h:qa9 s=true)(e0:okF (qa6 s) 0 t=true)(e1:okF (qa6 s) 1 u=true)(e2:okF (qa6 s) 2 g=true)(e3:okF (qa6 s) 3 m=true)(e4:okF (qa6 s) 4 z=true)(l0:t<9223372036854775808)(l1:u<9223372036854775808)(l2:g<9223372036854775808)(l3:m<9223372036854775808)(l4:z<9223372036854775808):
 Calls Tryz.prog 52 #[.agg #[.string s,.int .i64 t,.int .i64 u,.int .i64 g,.int .i64 m,.int .i64 z]] w (qcc s (num t u g m z) w):=by
 obtain⟨s1,s2,_,_⟩:=qbz.1 h
 have hall:qb3 s (num t u g m z) 5=true:=by
  show (((((true&&okF (qa6 s) 0 t)&&okF (qa6 s) 1 u)&&okF (qa6 s) 2 g)&&okF (qa6 s) 3 m)&&okF (qa6 s) 4 z)=true
  rw[e0,e1,e2,e3,e4];rfl
 have E0:=hid (qje h hall)
 have H0:=hid fun w'=>qcz (qa6 s) 0 t w' l0 true e0
 have H1:=hid fun w'=>qcz (qa6 s) 1 u w' l1 true e1
 have H2:=hid fun w'=>qcz (qa6 s) 2 g w' l2 true e2
 have H3:=hid fun w'=>qcz (qa6 s) 3 m w' l3 true e3
 have H4:=hid fun w'=>qcz (qa6 s) 4 z w' l4 true e4
 clear hall e0 e1 e2 e3 e4 l0 l1 l2 l3 l4
 have HbA:=hid (show Below w.heap.size w (w.alloc (.cells #[.string s,.int .i64 t,.int .i64 u,.int .i64 g,.int .i64 m,.int .i64 z] 126)) from (Below.refl _ _).alloc zjn _)
 go_enter Tryz.func52,Tryz.ntmps52
 go_wp2_with fail
 refine (qnb s _ (by omega)).mono ?_
 rintro e w1 ⟨rfl,m1,hw1⟩
 rw[h]
 have hat1:HAt w1 w.heap.size s t u g m z:=by rw[hw1];exact HAt.new w s t u g m z 126
 have Hb1:=hid (show Below w.heap.size w w1 by rw[hw1];exact HbA.out.trans (qa1 _ _))
 have hz1:w.heap.size<w1.heap.size:=hat1.2.2.2.2.2.2
 clear hw1 HbA
 obtain⟨c0,c1,c2,c3,c4,c5,_⟩:=hat1
 go_wp2_with fail
 refine (H0.out _).mono ?_
 rintro e w2 ⟨v0,rfl,ho0,hb2⟩
 have g2:=hb2
 have k2:=qa7 g2 hz1
 go_wp2_with fail
 refine (H1.out _).mono ?_
 rintro e w3 ⟨v1,rfl,ho1,hb3⟩
 have g3:=g2.trans (hb3.mono g2.size)
 have k3:=qa7 g3 hz1
 go_wp2_with fail
 refine (H2.out _).mono ?_
 rintro e w4 ⟨v2,rfl,ho2,hb4⟩
 have g4:=g3.trans (hb4.mono g3.size)
 have k4:=qa7 g4 hz1
 go_wp2_with fail
 refine (H3.out _).mono ?_
 rintro e w5 ⟨v3,rfl,ho3,hb5⟩
 have g5:=g4.trans (hb5.mono g4.size)
 have k5:=qa7 g5 hz1
 go_wp2_with fail
 refine (H4.out _).mono ?_
 rintro e w6 ⟨v4,rfl,ho4,hb6⟩
 have g6:=g5.trans (hb6.mono g5.size)
 have k6:=qa7 g6 hz1
 have HbF:=hid (Hb1.out.trans (g6.mono (Nat.le_of_lt hz1)))
 have hz6:w.heap.size<w6.heap.size:=Nat.lt_of_lt_of_le hz1 g6.size
 have Hc:=hid (show w6.cell? ⟨w.heap.size,0,none⟩=some (.string s) by rw[k6];exact c0)
 obtain⟨A0,cp0,rfl,r0,_,_⟩:=((((ho0 rfl).below hb3).below hb4).below hb5).below hb6 |>.reads
 obtain⟨A1,cp1,rfl,r1,_,_⟩:=(((ho1 rfl).below hb4).below hb5).below hb6 |>.reads
 obtain⟨A2,cp2,rfl,r2,_,_⟩:=((ho2 rfl).below hb5).below hb6 |>.reads
 obtain⟨A3,cp3,rfl,r3,_,_⟩:=(ho3 rfl).below hb6 |>.reads
 obtain⟨A4,cp4,rfl,r4,_,_⟩:=(ho4 rfl).reads
 have R0:=hid r0
 have R1:=hid r1
 have R2:=hid r2
 have R3:=hid r3
 have R4:=hid r4
 clear hb2 hb3 hb4 hb5 hb6 g2 g3 g4 g5 g6 ho0 ho1 ho2 ho3 ho4 k2 k3 k4 k5 r0 r1 r2 r3 r4
 go_upto_region 11 with (fail)
 refine region11 (K:=w6.heap.size) (B:=w.heap.size) (s:=s) ⟨rfl,rfl,Hc.out,hz6,Nat.le_refl _,s2⟩ ?_
 intro u75 u76 u77 u78 u79 u80 u81 u82 u83 v w7 hown7 hb7
 simp only[built,Act.put]
 go_wp2_with (first
  |(at_builtin;refine qai _ w6.heap.size _ 16 _ hown7 hb7.size A0 (wd 0) cp0 _ _ (R0.out.below hb7) (by decide) rfl (.tmp 84) (.tmp 85) rfl rfl rfl ?_;intro v8 w8 hown8 hb8;have g8:=hb7.trans hb8)
  |(at_builtin;refine qai _ w6.heap.size _ (16+wd 0) _ hown8 g8.size A1 (wd 1) cp1 _ _ (R1.out.below g8) (by decide) rfl (.tmp 86) (.tmp 87) rfl rfl rfl ?_;intro v9 w9 hown9 hb9;have g9:=g8.trans hb9)
  |(at_builtin;refine qai _ w6.heap.size _ (16+wd 0+wd 1) _ hown9 g9.size A2 (wd 2) cp2 _ _ (R2.out.below g9) (by decide) rfl (.tmp 88) (.tmp 89) rfl rfl rfl ?_;intro v10 w10 hown10 hb10;have g10:=g9.trans hb10)
  |(at_builtin;refine qai _ w6.heap.size _ (16+wd 0+wd 1+wd 2) _ hown10 g10.size A3 (wd 3) cp3 _ _ (R3.out.below g10) (by decide) rfl (.tmp 90) (.tmp 91) rfl rfl rfl ?_;intro v11 w11 hown11 hb11;have g11:=g10.trans hb11)
  |(at_builtin;refine qai _ w6.heap.size _ (16+wd 0+wd 1+wd 2+wd 3) _ hown11 g11.size A4 (wd 4) cp4 _ _ (R4.out.below g11) (by decide) rfl (.tmp 92) (.tmp 93) rfl rfl rfl ?_;intro v12 w12 hown12 hb12;have g12:=g11.trans hb12)
  |(at_builtin;refine qai _ w6.heap.size _ (16+wd 0+wd 1+wd 2+wd 3+wd 4) _ (hown12.alloc _) (by simp;exact Nat.le_succ_of_le g12.size) (some ⟨w12.heap.size,0,none⟩) 2 2 _ [96,10] (Rd.lit w12 [96,10] _ rfl 2 rfl) (by decide) rfl (.tmp 95) (.tmp 96) rfl rfl rfl ?_;intro v13 w13 hown13 hb13))
 go_ret2
 refine⟨_,by rw[E0.out.1];rfl,?_,HbF.out.trans (((g12.alloc g12.size _).trans hb13).mono (Nat.le_of_lt hz6))⟩
 have e1:(qqa s (num t u g m z)).length=off 5+2:=by rw[E0.out.2,List.length_append,qch s2 5 (qrm E0.out.1)];rfl
 rw[e1,E0.out.2]
 exact hown13.more (Nat.le_of_lt hz6)
theorem qnd (s:ByteArray)(t u g m z:Int)(w:World)(hs:s.size≤140737488355328)(l0:t<9223372036854775808)(l1:u<9223372036854775808)(l2:g<9223372036854775808)(l3:m<9223372036854775808)(l4:z<9223372036854775808):
 Calls Tryz.prog 52 #[.agg #[.string s,.int .i64 t,.int .i64 u,.int .i64 g,.int .i64 m,.int .i64 z]] w (qcc s (num t u g m z) w):=by
 cases h:qa9 s
 ·exact qt4 s t u g m z w hs h
 ·cases hx:(okF (qa6 s) 0 t&&okF (qa6 s) 1 u&&okF (qa6 s) 2 g&&okF (qa6 s) 3 m&&okF (qa6 s) 4 z)
  ·exact qvt s t u g m z w h _ _ _ _ _ rfl rfl rfl rfl rfl hx l0 l1 l2 l3 l4
  ·simp only[Bool.and_eq_true] at hx
   obtain⟨⟨⟨⟨e0,e1⟩,e2⟩,e3⟩,e4⟩:=hx
   exact qz1 s t u g m z w h e0 e1 e2 e3 e4 l0 l1 l2 l3 l4
end JH
namespace JH
open JB JT JD
end JH
namespace JH
open JB JT JD
end JH
namespace JH
open JB JT JD
end JH
end Go.Proofs.YtkegpjjehejaoaaGreatDoor
