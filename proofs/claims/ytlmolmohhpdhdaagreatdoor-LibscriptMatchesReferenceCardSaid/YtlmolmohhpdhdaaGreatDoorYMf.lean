/-
  The reference of header: which names fit, a field, a
-/
import Derived.Test.YtlmolmohhpdhdaaGreatDoorYHdk
set_option maxRecDepth 100000
set_option maxHeartbeats 16000000
set_option linter.all false
namespace Go.Proofs.YtlmolmohhpdhdaaGreatDoor
open Go.RowKit Go.Proofs Tryz
namespace JH
open JB JT JD
def rfOk (n:Int)(b w:Nat)(blank:Bool):Bool:=if blank=true then n==0 else decide (0<=n)&&decide (nd b n.toNat<=w)
def Qcu (n:Int)(b w:Nat)(blank:Bool):List UInt8:=if blank=true then List.replicate w 32 else Qce n b w
def Fields (n:Int)(b wd:Nat)(blank:Bool)(w:World)(e:Ending)(w':World):Prop:=
 ∃v,e=.returned (.tuple #[v,.bool (rfOk n b wd blank)])/\Own w' w.heap.size v (Qcu n b wd blank).length (Qcu n b wd blank)/\Below w.heap.size w w'
theorem Qcv (n:Int)(b w:Nat)(hb:vb (b:Int)=true)(hw:vw (w:Int)=true):(qws n b w==0)=(decide (0<=n)&&decide (nd b n.toNat<=w)):=by
 by_cases h:0<=n/\(nd b n.toNat:Int)<=w
 ·have h0:=(Qgs (n:=n) (b:=b) (w:=w) ⟨hb,hw⟩ (by rw[zlt];exact h)).1;have h2:nd b n.toNat<=w:=by omega
  rw[h0];simp[h.1,h2]
 ·have h0:=(qqw (n:=n) (b:=b) (w:=w) ⟨hb,hw⟩ (by rw[zlt];exact h)).1;have h2:¬(0<=n/\nd b n.toNat<=w):=by omega
  rw[h0];by_cases h3:0<=n
  ·have h4:¬nd b n.toNat<=w:=fun h5=>h2 ⟨h3,h5⟩;simp[h4]
  ·simp[h3]
theorem qu6 (n:Int)(b wd:Nat)(w:World)(hw:wd<=1000):
 Calls prog 135 #[.int .i64 n,.int .i64 (b:Int),.int .i64 (wd:Int),.bool true] w (Fields n b wd true w):=by
 have Hs:=hid (qj9 wd w hw)
 have Hf:Hid (∀v w',Own w' w.heap.size v wd (List.replicate wd 32)->Below w.heap.size w w'->Fields n b wd true w (.returned (.tuple #[v,.bool (n==0)])) w'):=hid fun v w' h1 h2=>
  ⟨v,rfl,by
   have:Qcu n b wd true=List.replicate wd 32:=rfl;rw[this,List.length_replicate];exact h1,h2⟩
 go_enter func135,ntmps135;go_wp2_with fail
 refine Hs.out.mono ?_;rintro e w1 ⟨v1,rfl,hown1,hb1⟩;go_wp2_with fail
 go_ret2
 exact Hf.out _ _ hown1 hb1
theorem Qak (n:Int)(b wd:Nat)(w:World)(hn:n<9223372036854775808)(hb:vb (b:Int)=true)(hw:vw (wd:Int)=true):
 Calls prog 135 #[.int .i64 n,.int .i64 (b:Int),.int .i64 (wd:Int),.bool false] w (Fields n b wd false w):=by
 have Hs:=hid fun w'=>qe4 n b wd w' hn
 have Hf:Hid (∀v w',Own w' w.heap.size v (Qce n b wd).length (Qce n b wd)->Below w.heap.size w w'->Fields n b wd false w (.returned (.tuple #[v,.bool (qws n b wd==0)])) w'):=hid fun v w' h1 h2=>
  ⟨v,by rw[Qcv n b wd hb hw];rfl,h1,h2⟩
 clear hb hw;go_enter func135,ntmps135;go_wp2_with fail
 refine (Hs.out _).mono ?_;rintro e w1 ⟨v1,rfl,hown1,hb1⟩;go_wp2_with fail
 go_ret2
 exact Hf.out _ _ hown1 hb1
theorem Qam (n:Int)(b wd:Nat)(blank:Bool)(w:World)(hn:n<9223372036854775808)(hb:vb (b:Int)=true)(hw:vw (wd:Int)=true):
 Calls prog 135 #[.int .i64 n,.int .i64 (b:Int),.int .i64 (wd:Int),.bool blank] w (Fields n b wd blank w):=by
 cases blank
 ·exact Qak n b wd w hn hb hw
 ·exact qu6 n b wd w (by have:=qdx.1 hw;omega)
theorem qg7 (K K':Nat)(A A':Option Addr)(n c n' c':Nat)(xs ys:List UInt8)(w:World)(h:Rd w K A n xs)(h':Rd w K' A' n' ys)(hK:K<=w.heap.size)(hK':K'<=w.heap.size)(hn:n<=10000)(hn':n'<=10000):
 Calls prog 100 #[.slice A n c,.slice A' n' c'] w fun e w'=>∃v,e=.returned v/\Own w' w.heap.size v (n+n') (xs++ys)/\Below w.heap.size w w':=by
 have hbl:=hid ((Below.refl w.heap.size w).alloc zjn (.cells #[] 5));have H1:=hid ((h.more hK).below hbl.out);have H2:=hid ((h'.more hK').below hbl.out);clear h h';go_enter func100,ntmps100
 go_wp2_with (first
  |(at_builtin;refine qah _ w.heap.size _ 0 [] (Own.lit0 w w.heap.size zjn) (by simp) A n c _ xs H1.out (by omega) rfl (.tmp 5) (.tmp 6) rfl rfl rfl ?_;intro v1 w1 hown1 hb1;have hb01:=hbl.out.trans hb1)
  |(at_builtin;refine qah _ w.heap.size _ _ _ hown1 hb01.size A' n' c' _ ys (H2.out.below hb1) (by omega) rfl (.tmp 7) (.tmp 8) rfl rfl rfl ?_;intro v2 w2 hown2 hb2))
 go_ret
 refine⟨_,rfl,?_,hb01.trans hb2⟩;rw[Nat.zero_add,zlI] at hown2;exact hown2
theorem qx4 {s:ByteArray}{k:Nat}{c:UInt8}(hk:s.size=k+1)(hk2:k<16)(hc:(by_ s)[k]?=some c):qaa s=(!bad (by_ s)&&!(32==c)):=by
 have hl:(by_ s).length=k+1:=by rw[qgb];exact hk
 have e:by_ s=(by_ s).take k++[c]:=by
  obtain⟨h1,h2⟩:=zlv.1 hc;rw[<-h2,<-zlg h1,zlj (by omega)]
 have hs:Lib.hasSuffix (by_ s) [32]=(32==c):=by
  rw[e];exact qnu _ _
 unfold qaa;rw[hs];have h1:1<=s.size:=by omega
 have h2:s.size<=16:=by omega
 simp[h1,h2]
theorem at_by (s:ByteArray)(i:Nat)(h:i<s.size):(by_ s)[i]?=some (s[i]'h):=Lib.data_getElem? s i h
theorem bad_of {s:ByteArray}{i:Nat}{c:UInt8}(h1:Lib.NoAny (by_ s) [10,0] i)(h2:(by_ s)[i]?=some c)(h3:([10,0]:List UInt8).contains c=true):bad (by_ s)=true:=by
 unfold bad Lib.containsAny;rw[Lib.indexAny_hit h1 h2 h3];simp
theorem bad_none {s:ByteArray}{i:Nat}(h1:Lib.NoAny (by_ s) [10,0] i)(h2:s.size<=i):bad (by_ s)=false:=by
 unfold bad Lib.containsAny;rw[Lib.indexAny_none (fun j b hj hb=>h1 j b (by rw[qgb] at hj;omega) hb)];simp
theorem qhn (s:ByteArray)(w:World)(hs:s.size<=140737488355328):
 Calls prog 131 #[.string s] w fun e w'=>e=.returned (.bool (qaa s))/\∃m,w'=w.drewN m:=by
 by_cases h1:s.size<1
 ·have Hr:Hid (qaa s=false):=hid (by unfold qaa;simp;omega);go_enter func131,ntmps131;go_wp2_with fail
  go_ret
  exact⟨qa1 Hr.out.symm,0,rfl⟩
 ·by_cases h2:16<s.size
  ·have Hr:Hid (qaa s=false):=hid (by unfold qaa;simp;omega);go_enter func131,ntmps131;go_wp2_with fail
   go_ret
   exact⟨qa1 Hr.out.symm,0,rfl⟩
  ·obtain⟨k,hk⟩:∃k,s.size=k+1:=⟨s.size-1,by omega⟩;have hkl:k<s.size:=by omega
   have hz:(s.size:Int)-1=(k:Int):=by omega
   have Hk:=hid hk;have Hlast:=hid fun c hc=>qx4 (c:=c) hk (by omega) hc;have Hc:=hid (at_by s k hkl);clear hk;by_cases h32:s[k]=32
   ·have Hr:Hid (qaa s=false):=hid (by rw[Hlast.out _ Hc.out,h32];simp);have hq:((s[k].toNat:Int)==32)=true:=by rw[h32];rfl
    clear h32;go_enter func131,ntmps131;go_wp2_with fail
    go_ret
    exact⟨qa1 Hr.out.symm,0,rfl⟩
   ·have Hr:Hid (qaa s=!bad (by_ s)):=hid (by
     rw[Hlast.out _ Hc.out];have:((32:UInt8)==s[k])=false:=by rw[zls];exact fun e=>h32 e.symm
     rw[this];simp)
    have hq:((s[k].toNat:Int)==32)=false:=by
     rw[zls];intro e;apply h32;rw[<-UInt8.toNat_inj];show s[k].toNat=32
     omega
    clear h32;go_enter func131,ntmps131;go_wp2_with fail
    go_loop [3] (fun i=>∃j:Nat,i=.int .i64 (j:Int)/\j<=s.size/\Lib.NoAny (by_ s) [10,0] j) (fun i=>s.size-qj2 i)
    case atStart=>exact⟨0,rfl,by omega,Lib.NoAny.zero _ _⟩
    case round=>
     obtain⟨j,rfl,hj,hno⟩:=hrel;have Hno:=hid hno;clear hno hq;by_cases hlt:j<s.size
     ·have Hj:=hid (at_by s j hlt);obtain⟨x,hx⟩:∃x:UInt8,s[j]'hlt=x:=⟨_,rfl⟩;rw[hx] at Hj;by_cases hx1:x=10
      ·subst hx1;have Hb:=hid (bad_of Hno.out Hj.out (by decide));have hx2:((s[j].toNat:Int)==10)=true:=by rw[hx];rfl
       clear hx;go_wp2_with fail
       go_ret
       exact⟨qa1 (by rw[Hr.out,Hb.out];rfl),0,rfl⟩
      ·by_cases hx0:x=0
       ·subst hx0;have Hb:=hid (bad_of Hno.out Hj.out (by decide));have hx2:((s[j].toNat:Int)==10)=false:=by rw[hx];rfl
        have hx3:((s[j].toNat:Int)==0)=true:=by rw[hx];rfl
        clear hx;go_wp2_with fail
        go_ret
        exact⟨qa1 (by rw[Hr.out,Hb.out];rfl),0,rfl⟩
       ·have hc:([10,0]:List UInt8).contains x=false:=by simp[hx1,hx0]
        have Hn:=hid (Hno.out.succ Hj.out hc)
        have hx2:((s[j].toNat:Int)==10)=false:=by
         rw[hx,zls];intro e;apply hx1;rw[<-UInt8.toNat_inj];show x.toNat=10;omega
        have hx3:((s[j].toNat:Int)==0)=false:=by
         rw[hx,zls];intro e;apply hx0;rw[<-UInt8.toNat_inj];show x.toNat=0;omega
        clear hx hx1 hx0 hc;go_wp2_with fail
        go_round
        case rel=>exact⟨j+1,by go_num,by omega,Hn.out⟩
        case measure=>simp[qj2];omega
     ·have Hb:=hid (bad_none Hno.out (by omega));go_wp2_with fail
      go_ret
      exact⟨qa1 (by rw[Hr.out,Hb.out];rfl),0,rfl⟩
set_option maxRecDepth 100000
def oa : Oper := { dst := some 75, op := .fieldAddr 155 (.tmp 1) 0, type := 0, pos := "ref.go:57", after := #[], guard := none }
def ob : Oper := { dst := some 76, op := .load 9 (.tmp 75), type := 9, pos := "ref.go:57", after := #[{ on := 0, ground := .data }], guard := none }
def oc : Oper := { dst := some 77, op := .convert 9 22 (.tmp 76), type := 22, pos := "ref.go:57", after := #[{ on := 1, ground := .data }], guard := none }
def od : Oper := { dst := some 78, op := .fieldAddr 155 (.tmp 1) 0, type := 0, pos := "ref.go:57", after := #[], guard := none }
def oe : Oper := { dst := some 79, op := .load 9 (.tmp 78), type := 9, pos := "ref.go:57", after := #[{ on := 3, ground := .data }], guard := none }
def of : Oper := { dst := some 80, op := .call { callee := .builtin .len, args := #[.tmp 79], argTypes := #[9] }, type := 3, pos := "ref.go:57", after := #[{ on := 4, ground := .data }], guard := none }
def og : Oper := { dst := some 81, op := .binOp .sub 3 (.const (.int .i64 16)) (.tmp 80) 3, type := 3, pos := "ref.go:57", after := #[{ on := 5, ground := .data }], guard := none }
def oh : Oper := { dst := some 82, op := .call { callee := .value (.func 136), args := #[.tmp 81], argTypes := #[3] }, type := 22, pos := "ref.go:57", after := #[{ on := 6, ground := .data }], guard := none }
def oi : Oper := { dst := some 83, op := .call { callee := .builtin .append, args := #[.tmp 77, .tmp 82], argTypes := #[22, 22] }, type := 22, pos := "ref.go:57", after := #[{ on := 2, ground := .data }, { on := 7, ground := .data }, { on := 7, ground := .chain }], guard := none }
def oj : Oper := { dst := some 15, op := .assign (.tmp 83), type := 22, pos := "ref.go:57", after := #[{ on := 8, ground := .data }, { on := 8, ground := .chain }, { on := 0, ground := .phase }, { on := 1, ground := .phase }, { on := 2, ground := .phase },
 {on:=3,ground:=.phase},{on:=4,ground:=.phase},{on:=5,ground:=.phase},{on:=6,ground:=.phase},{on:=7,ground:=.phase},{on:=8,ground:=.phase}],guard:=none}
def qb1:Array Oper:=#[oa,ob,oc,od,oe,of,og,oh,oi,oj]
def qnv (a0 a:Act):Prop:=a.defers=a0.defers/\a.tmps.size=a0.tmps.size/\∀k,k≠15->(k<75∨83<k)->a.tmps[k]?=a0.tmps[k]?
theorem qnv.put {a0 a:Act}(h:qnv a0 a)(d:Nat)(hd:75<=d/\d<=83)(v:Value):qnv a0 (a.put (some d) v):=by
 refine⟨h.1,by simp[Act.put];exact h.2.1,fun k h15 hk=>?_⟩;show (a.tmps.setIfInBounds d v)[k]?=_
 rw[Array.getElem?_setIfInBounds_ne (by omega)];exact h.2.2 k h15 hk
theorem qnv.put15 {a0 a:Act}(h:qnv a0 a)(v:Value):qnv a0 (a.put (some 15) v):=by
 refine⟨h.1,by simp[Act.put];exact h.2.1,fun k h15 hk=>?_⟩;show (a.tmps.setIfInBounds 15 v)[k]?=_
 rw[Array.getElem?_setIfInBounds_ne (by omega)];exact h.2.2 k h15 hk
theorem qd2 {a:Act}{d:Nat}(hd:d<a.tmps.size)(v:Value):(a.put (some d) v).eval (.tmp d)=v:=by
 show (a.tmps.setIfInBounds d v).getD d undef=v
 simp[Array.getD_eq_getD_getElem?,hd]
theorem qan {a:Act}{d k:Nat}(h:d≠k)(v:Value):(a.put (some d) v).eval (.tmp k)=a.eval (.tmp k):=by
 show (a.tmps.setIfInBounds d v).getD k undef=a.tmps.getD k undef
 rw[Array.getD_eq_getD_getElem?,Array.getD_eq_getD_getElem?,Array.getElem?_setIfInBounds_ne h]
theorem qnv.one {a0 a:Act}(h:qnv a0 a):a.eval (.tmp 1)=a0.eval (.tmp 1):=by
 show a.tmps.getD 1 undef=a0.tmps.getD 1 undef
 rw[Array.getD_eq_getD_getElem?,Array.getD_eq_getD_getElem?,h.2.2 1 (by omega) (by omega)]
def built (a0:Act)(u75 u76 u77 u78 u79 u80 u81 u82 u83 v:Value):Act:=
 (((((((((a0.put (some 75) u75).put (some 76) u76).put (some 77) u77).put (some 78) u78).put (some 79) u79).put (some 80) u80).put (some 81) u81).put (some 82) u82).put (some 83) u83).put (some 15) v
theorem qnv.rebuilt {a0 a:Act}(h:qnv a0 a)(hz:a0.tmps.size=98):a=built a0 (a.eval (.tmp 75)) (a.eval (.tmp 76)) (a.eval (.tmp 77)) (a.eval (.tmp 78)) (a.eval (.tmp 79)) (a.eval (.tmp 80)) (a.eval (.tmp 81)) (a.eval (.tmp 82)) (a.eval (.tmp 83)) (a.eval (.tmp 15)):=by
 obtain⟨tm,df⟩:=a;obtain⟨h1,h2,h3⟩:=h;simp only at h1 h2 h3;subst h1;unfold built Act.put Act.eval;simp only[Act.mk.injEq,and_true];apply Array.ext_getElem?;intro k;have hk:k=15∨k=75∨k=76∨k=77∨k=78∨k=79∨k=80∨k=81∨k=82∨k=83∨(k≠15/\(k<75∨83<k)):=by omega
 rcases hk with rfl|rfl|rfl|rfl|rfl|rfl|rfl|rfl|rfl|rfl|⟨hk1,hk2⟩
 iterate 10
  ·simp[hz,Array.getD_eq_getD_getElem?,h2]
 ·rw[h3 k hk1 hk2];repeat rw[Array.getElem?_setIfInBounds_ne (by omega)]
theorem doOp {ops:Array Oper}{Q:Exit->Act->World->Prop}{i:Nat}{o:Oper}{K:Act->World->Prop}{a:Act}{w:World}(ho:ops[i]?=some o)(hg:o.guard=none)(h:o.wp prog a w K Q):wpOp prog ops Q i K a w:=by
 unfold wpOp;rw[ho];simp only[Region.wanted,hg,if_true];exact .inl h
theorem qyv (w:World)(K:Nat)(ty:TypeId)(v:Value)(n:Nat)(l:List UInt8)(hown:Own w K v n l)(hK:K<=w.heap.size)(A:Option Addr)(k c B:Nat)(src:List UInt8)(hr:Rd w B A k src)(hsz:n+k<=140737488355328):
 ∃v' w',(Builtin.append_ #[22,22] ty #[v,.slice A k c]).run prog w=.ok v' w'/\Own w' K v' (n+k) (l++src)/\Below K w w':=by
 rcases A with _|ad
 ·have hk:k=0:=by
   rcases Nat.eq_zero_or_pos k with h0|h0
   ·exact h0
   ·obtain⟨b,o',e,_⟩:=hr.2 0 (by have:=hr.1;omega);cases e
  subst hk;have hn:src=[]:=zli hr.1;subst hn;obtain⟨i,hi,hz0,hz1,hz2⟩:=info_parts qjd;have ht:=underlying22;refine⟨v,w,?_,by simpa using hown,Below.refl _ _⟩;rcases hown.2 with ⟨rfl,rfl⟩|⟨g,cap,cur,m,rfl,_,_,hnc,_⟩
  ·simp[Builtin.append_,run_underlying ht,sizeOf,typeInfo,hi,Builtin.lenOf,Builtin.firstCells]
  ·simp[Builtin.append_,run_underlying ht,sizeOf,typeInfo,hi,Builtin.lenOf,Builtin.firstCells,hnc,storeCells]
 ·refine qgq w K ty v n l hown hK ad k c src hr.1 (fun j u hj=>?_) hsz;unfold enc at hj;rw[zlF] at hj;rcases hx:src[j]? with _|y
  ·rw[hx] at hj;cases hj
  ·rw[hx] at hj;obtain⟨hlt,rfl⟩:=zlv.1 hx;obtain⟨b,o',e,_,hc⟩:=hr.2 j hlt;injection e with e;subst e;have ha:(⟨b,o',none⟩:Addr).add j=⟨b,o'+j,none⟩:=by unfold Addr.add;split<;>simp_all
   rw[ha,hc];exact hj
section
variable {Q : Exit -> Act -> World -> Prop} {K' : Act -> World -> Prop} {a : Act} {w : World} {K B : Nat} {s : ByteArray}
theorem Qcw {d:Nat}{o:Oper}(ho:o.op=.fieldAddr 155 (.tmp 1) 0)(hd:o.dst=some d)(hp:a.eval (.tmp 1)=.pointer (some ⟨B,0,none⟩))(h:K' (a.put (some d) (.pointer (some ⟨B,0,none⟩))) w):o.wp prog a w K' Q:=by
 have hr:(Go.Instr.fieldAt 155 (.pointer (some ⟨B,0,none⟩)) 0).run prog w=Go.Result.ok (.pointer (some ⟨B,0,none⟩)) w:=by kernel_rfl
 unfold Oper.wp execOp;simp only[ho,hp,Sem.run_bind,Sem.run_pure,hr,Result.andThen_ok,Oper.upon,hd];exact h
theorem Qcx {d f:Nat}{o:Oper}(ho:o.op=.load 9 (.tmp f))(hd:o.dst=some d)(hp:a.eval (.tmp f)=.pointer (some ⟨B,0,none⟩))(hc:w.cell? ⟨B,0,none⟩=some (.string s))(h:K' (a.put (some d) (.string s)) w):o.wp prog a w K' Q:=by
 have hr:(Go.Instr.loadAt 9 (.pointer (some ⟨B,0,none⟩))).run prog w=Go.Result.ok (.string s) w:=by simp[go_sem,hc]
 unfold Oper.wp execOp;simp only[ho,hp,Sem.run_bind,Sem.run_pure,hr,Result.andThen_ok,Oper.upon,hd];exact h
theorem wp_conv (hp:a.eval (.tmp 76)=.string s)(hs:s.size<=16)(hK:K<=w.heap.size)(h:∀v w',Own w' K v s.size (by_ s)->Below w.heap.size w w'->K' (a.put (some 77) v) w'):oc.wp prog a w K' Q:=by
 have hrun:=run_bytes_of_string (P:=prog) w 9 22 5 s underlying9 underlying22 underlying5;have hl:=qgb s;unfold Oper.wp execOp;simp only[oc,hp,Sem.run_bind,Sem.run_pure,hrun,Result.andThen_ok,Oper.upon];refine h _ _ ⟨hl,.inr ⟨w.heap.size,_,_,_,rfl,hK,zld w.drew _,grownCap_ge _ _ _ _,grownCap_le_maxLen _ _ _ _ (by unfold maxLen;omega),?_,?_,?_⟩⟩ ((Below.refl _ w).drew.alloc zjn _)
 ·have:=grownCap_ge w s.size 0 5;have h2:s.data.size=s.size:=rfl;simp[bytesRow,h2];omega
 ·have h2:s.data.size=s.size:=rfl;simp[bytesRow,enc,by_,h2]
 ·intro j hj;have:=grownCap_ge w s.size 0 5;simp[bytesRow];omega
theorem wp_len (hp:a.eval (.tmp 79)=.string s)(h:K' (a.put (some 80) (.int .i64 (s.size:Int))) w):of.wp prog a w K' Q:=by
 unfold Oper.wp execOp;simp only[of,resolve,invoke,builtin,Sem.run_bind,Sem.run_pure,Result.andThen_ok,List.map_toArray,List.map_cons,List.map_nil,hp];simp[go_sem];exact h
theorem wp_sub (hp:a.eval (.tmp 80)=.int .i64 (s.size:Int))(hs:s.size<=16)(h:K' (a.put (some 81) (.int .i64 ((16-s.size:Nat):Int))) w):og.wp prog a w K' Q:=by
 have hc:a.eval (.const (.int .i64 16))=.int .i64 16:=rfl;have e:=qx1 hs;unfold Oper.wp execOp;simp only[og,hp,hc];simp[go_sem];have ew:IntKind.i64.wrap (16-(s.size:Int))=((16-s.size:Nat):Int):=by rw[wrap_small _ (by omega) (by omega)];exact e
 rw[ew];exact h
theorem wp_sp (hp:a.eval (.tmp 81)=.int .i64 ((16-s.size:Nat):Int))(h:∀v w',Own w' w.heap.size v (16-s.size) (List.replicate (16-s.size) 32)->Below w.heap.size w w'->K' (a.put (some 82) v) w'):oh.wp prog a w K' Q:=by
 have hc:a.eval (.func 136)=.func (.func 136) #[] #[]:=rfl
 have hp':a.tmps[81]?.getD undef=.int .i64 ((16-s.size:Nat):Int):=by
  rw[<-hp];exact (Array.getD_eq_getD_getElem?).symm
 unfold Oper.wp execOp;simp only[oh,resolve,hc];simp[go_sem];rw[hp'];refine (qj9 (16-s.size) w (by omega)).mono ?_;rintro e w' ⟨v,rfl,h1,h2⟩;exact h v w' h1 h2
theorem wp_app (h1:Own w K (a.eval (.tmp 77)) s.size (by_ s))(h2:Own w K (a.eval (.tmp 82)) (16-s.size) (List.replicate (16-s.size) 32))(hs:s.size<=16)(hK:K<=w.heap.size)
 (h:∀v w',Own w' K v 16 (by_ s++List.replicate (16-s.size) 32)->Below K w w'->K' (a.put (some 83) v) w'):oi.wp prog a w K' Q:=by
 obtain⟨A,c,hv,hr,_,_⟩:=h2.reads;have e1:s.size+(16-s.size)=16:=by omega
 obtain⟨v',w',hrun,g1,g2⟩:=qyv w K oi.type _ s.size (by_ s) h1 hK A (16-s.size) c _ _ hr (by omega);rw[e1] at g1;rw[<-hv] at hrun;unfold Oper.wp execOp;have ho:oi.op=.call {callee:=.builtin .append,args:=#[.tmp 77,.tmp 82],argTypes:=#[22,22]}:=rfl;simp only[ho,resolve,invoke,builtin,Sem.run_bind,Sem.run_pure,Result.andThen_ok,List.map_toArray,List.map_cons,List.map_nil,hrun];exact h v' w' g1 g2
theorem wp_asg (h:K' (a.put (some 15) (a.eval (.tmp 83))) w):oj.wp prog a w K' Q:=by
 unfold Oper.wp execOp;simp only[oj];exact h
end
section
variable {Q : Exit -> Act -> World -> Prop} {a0 : Act} {w0 : World} {K B : Nat} {s : ByteArray}
def Sa (K B:Nat)(s:ByteArray)(i:Nat)(a:Act)(w:World):Prop:=
 (1<=i->a.eval (.tmp 75)=.pointer (some ⟨B,0,none⟩))/\(2<=i->a.eval (.tmp 76)=.string s)/\(3<=i->Own w K (a.eval (.tmp 77)) s.size (by_ s))
def Sb (K B:Nat)(s:ByteArray)(j:Nat)(a:Act)(w:World):Prop:=
 (1<=j->a.eval (.tmp 78)=.pointer (some ⟨B,0,none⟩))/\(2<=j->a.eval (.tmp 79)=.string s)/\(3<=j->a.eval (.tmp 80)=.int .i64 (s.size:Int))/\(4<=j->a.eval (.tmp 81)=.int .i64 ((16-s.size:Nat):Int))/\
  (5<=j->Own w K (a.eval (.tmp 82)) (16-s.size) (List.replicate (16-s.size) 32))
structure St (a0:Act) (w0:World) (K B:Nat) (s:ByteArray) (i j:Nat) (a:Act) (w:World):Prop where
 keeps:qnv a0 a
 below:Below K w0 w
 sa:Sa K B s i a w
 sb:Sb K B s j a w
structure Fix (a0:Act) (w0:World) (K B:Nat) (s:ByteArray):Prop where
 size:a0.tmps.size=98
 one:a0.eval (.tmp 1)=.pointer (some ⟨B,0,none⟩)
 name:w0.cell? ⟨B,0,none⟩=some (.string s)
 lt:B<K
 le:K<=w0.heap.size
 small:s.size<=16
theorem Sb.put {j:Nat}{a:Act}{w w':World}(h:Sb K B s j a w)(hb:Below w.heap.size w w'){d:Nat}(hd:d<=77)(v:Value):Sb K B s j (a.put (some d) v) w':=by
 obtain⟨h1,h2,h3,h4,h5⟩:=h;refine⟨fun hj=>?_,fun hj=>?_,fun hj=>?_,fun hj=>?_,fun hj=>?_⟩
 ·rw[qan (by omega)];exact h1 hj
 ·rw[qan (by omega)];exact h2 hj
 ·rw[qan (by omega)];exact h3 hj
 ·rw[qan (by omega)];exact h4 hj
 ·rw[qan (by omega)];exact (h5 hj).below hb
theorem Sa.put {i:Nat}{a:Act}{w w':World}(h:Sa K B s i a w)(hb:Below w.heap.size w w'){d:Nat}(hd:78<=d)(v:Value):Sa K B s i (a.put (some d) v) w':=by
 obtain⟨h1,h2,h3⟩:=h;refine⟨fun hj=>?_,fun hj=>?_,fun hj=>?_⟩
 ·rw[qan (by omega)];exact h1 hj
 ·rw[qan (by omega)];exact h2 hj
 ·rw[qan (by omega)];exact (h3 hj).below hb
theorem St.one {i j:Nat}{a:Act}{w:World}(h:St a0 w0 K B s i j a w)(F:Fix a0 w0 K B s):a.eval (.tmp 1)=.pointer (some ⟨B,0,none⟩):=h.keeps.one.trans F.one
theorem St.size {i j:Nat}{a:Act}{w:World}(h:St a0 w0 K B s i j a w)(F:Fix a0 w0 K B s):a.tmps.size=98:=h.keeps.2.1.trans F.size
theorem St.name {i j:Nat}{a:Act}{w:World}(h:St a0 w0 K B s i j a w)(F:Fix a0 w0 K B s):w.cell? ⟨B,0,none⟩=some (.string s):=by
 rw[h.below.cell (p:=⟨B,0,none⟩) F.lt];exact F.name
theorem St.le {i j:Nat}{a:Act}{w:World}(h:St a0 w0 K B s i j a w)(F:Fix a0 w0 K B s):K<=w.heap.size:=Nat.le_trans F.le h.below.size
variable {K' : Act -> World -> Prop} {j i : Nat} {a : Act} {w : World}
theorem goA0 (F:Fix a0 w0 K B s)(h:St a0 w0 K B s 0 j a w)(n:∀a w,St a0 w0 K B s 1 j a w->K' a w):wpOp prog qb1 Q 0 K' a w:=by
 refine doOp (o:=oa) rfl rfl (Qcw rfl rfl (h.one F) (n _ _ ⟨h.keeps.put 75 (by omega) _,h.below,⟨fun _=>?_,fun hx=>by omega,fun hx=>by omega⟩,h.sb.put zjb (by omega) _⟩));exact qd2 (by rw[h.size F];omega) _
theorem goA1 (F:Fix a0 w0 K B s)(h:St a0 w0 K B s 1 j a w)(n:∀a w,St a0 w0 K B s 2 j a w->K' a w):wpOp prog qb1 Q 1 K' a w:=by
 refine doOp (o:=ob) rfl rfl (Qcx rfl rfl (h.sa.1 (by omega)) (h.name F) (n _ _ ⟨h.keeps.put 76 (by omega) _,h.below,⟨fun _=>?_,fun _=>?_,fun hx=>by omega⟩,h.sb.put zjb (by omega) _⟩))
 ·rw[qan (by omega)];exact h.sa.1 (by omega)
 ·exact qd2 (by rw[h.size F];omega) _
theorem goA2 (F:Fix a0 w0 K B s)(h:St a0 w0 K B s 2 j a w)(n:∀a w,St a0 w0 K B s 3 j a w->K' a w):wpOp prog qb1 Q 2 K' a w:=by
 refine doOp (o:=oc) rfl rfl (wp_conv (K:=K) (h.sa.2.1 (by omega)) F.small (h.le F) fun v w' h1 h2=>n _ _ ⟨h.keeps.put 77 (by omega) _,h.below.trans (h2.mono (h.le F)),⟨fun _=>?_,fun _=>?_,fun _=>?_⟩,h.sb.put h2 (by omega) _⟩)
 ·rw[qan (by omega)];exact h.sa.1 (by omega)
 ·rw[qan (by omega)];exact h.sa.2.1 (by omega)
 ·rw[qd2 (by rw[h.size F];omega)];exact h1
theorem goB0 (F:Fix a0 w0 K B s)(h:St a0 w0 K B s i 0 a w)(n:∀a w,St a0 w0 K B s i 1 a w->K' a w):wpOp prog qb1 Q 3 K' a w:=by
 refine doOp (o:=od) rfl rfl (Qcw rfl rfl (h.one F) (n _ _ ⟨h.keeps.put 78 (by omega) _,h.below,h.sa.put zjb (by omega) _,⟨fun _=>?_,fun hx=>by omega,fun hx=>by omega,fun hx=>by omega,fun hx=>by omega⟩⟩));exact qd2 (by rw[h.size F];omega) _
theorem goB1 (F:Fix a0 w0 K B s)(h:St a0 w0 K B s i 1 a w)(n:∀a w,St a0 w0 K B s i 2 a w->K' a w):wpOp prog qb1 Q 4 K' a w:=by
 refine doOp (o:=oe) rfl rfl (Qcx rfl rfl (h.sb.1 (by omega)) (h.name F) (n _ _ ⟨h.keeps.put 79 (by omega) _,h.below,h.sa.put zjb (by omega) _,⟨fun _=>?_,fun _=>?_,fun hx=>by omega,fun hx=>by omega,fun hx=>by omega⟩⟩))
 ·rw[qan (by omega)];exact h.sb.1 (by omega)
 ·exact qd2 (by rw[h.size F];omega) _
theorem goB2 (F:Fix a0 w0 K B s)(h:St a0 w0 K B s i 2 a w)(n:∀a w,St a0 w0 K B s i 3 a w->K' a w):wpOp prog qb1 Q 5 K' a w:=by
 refine doOp (o:=of) rfl rfl (wp_len (h.sb.2.1 (by omega)) (n _ _ ⟨h.keeps.put 80 (by omega) _,h.below,h.sa.put zjb (by omega) _,⟨fun _=>?_,fun _=>?_,fun _=>?_,fun hx=>by omega,fun hx=>by omega⟩⟩))
 ·rw[qan (by omega)];exact h.sb.1 (by omega)
 ·rw[qan (by omega)];exact h.sb.2.1 (by omega)
 ·exact qd2 (by rw[h.size F];omega) _
theorem goB3 (F:Fix a0 w0 K B s)(h:St a0 w0 K B s i 3 a w)(n:∀a w,St a0 w0 K B s i 4 a w->K' a w):wpOp prog qb1 Q 6 K' a w:=by
 refine doOp (o:=og) rfl rfl (wp_sub (h.sb.2.2.1 (by omega)) F.small (n _ _ ⟨h.keeps.put 81 (by omega) _,h.below,h.sa.put zjb (by omega) _,⟨fun _=>?_,fun _=>?_,fun _=>?_,fun _=>?_,fun hx=>by omega⟩⟩))
 ·rw[qan (by omega)];exact h.sb.1 (by omega)
 ·rw[qan (by omega)];exact h.sb.2.1 (by omega)
 ·rw[qan (by omega)];exact h.sb.2.2.1 (by omega)
 ·exact qd2 (by rw[h.size F];omega) _
theorem goB4 (F:Fix a0 w0 K B s)(h:St a0 w0 K B s i 4 a w)(n:∀a w,St a0 w0 K B s i 5 a w->K' a w):wpOp prog qb1 Q 7 K' a w:=by
 refine doOp (o:=oh) rfl rfl (wp_sp (h.sb.2.2.2.1 (by omega)) fun v w' h1 h2=>n _ _ ⟨h.keeps.put 82 (by omega) _,h.below.trans (h2.mono (h.le F)),h.sa.put h2 (by omega) _,⟨fun _=>?_,fun _=>?_,fun _=>?_,fun _=>?_,fun _=>?_⟩⟩)
 ·rw[qan (by omega)];exact h.sb.1 (by omega)
 ·rw[qan (by omega)];exact h.sb.2.1 (by omega)
 ·rw[qan (by omega)];exact h.sb.2.2.1 (by omega)
 ·rw[qan (by omega)];exact h.sb.2.2.2.1 (by omega)
 ·rw[qd2 (by rw[h.size F];omega)];exact h1.more (h.le F)
theorem region11 {id:Nat}(F:Fix a0 w0 K B s)(hQ:∀u75 u76 u77 u78 u79 u80 u81 u82 u83 v w,Own w K v 16 (by_ s++List.replicate (16-s.size) 32)->Below K w0 w->Q .normal (built a0 u75 u76 u77 u78 u79 u80 u81 u82 u83 v) w):(Code.region id qb1 true).wp prog Q a0 w0:=by
 have T35:∀a w,St a0 w0 K B s 3 5 a w->wpAny prog .any qb1 Q 2 #[true,true,true,true,true,true,true,true,false,false] a w:=fun a w h=>by
  have er:Region.ready .any qb1 #[true,true,true,true,true,true,true,true,false,false]=[8]:=by kernel_rfl
  refine⟨fun hr=>(by rw[er] at hr;cases hr),fun k hk=>?_⟩;rw[er] at hk;have hk':=zlw.1 hk;subst hk';refine doOp (o:=oi) rfl rfl (wp_app (h.sa.2.2 (by omega)) (h.sb.2.2.2.2 (by omega)) F.small (h.le F) fun v w' h1 h2=>?_);have er2:Region.ready .any qb1 (#[true,true,true,true,true,true,true,true,false,false].setIfInBounds 8 true)=[9]:=by kernel_rfl
  refine⟨fun hr=>(by rw[er2] at hr;cases hr),fun k hk=>?_⟩;rw[er2] at hk;have hk':=zlw.1 hk;subst hk';refine doOp (o:=oj) rfl rfl (wp_asg ?_);refine⟨by kernel_rfl,?_⟩;have hkp:=((h.keeps.put 83 (by omega) v).put15 ((a.put (some 83) v).eval (.tmp 83)));rw[hkp.rebuilt F.size];refine hQ _ _ _ _ _ _ _ _ _ _ _ ?_ (h.below.trans h2);rw[qd2 (by have:=h.size F;simp[Act.put];omega),qd2 (by rw[h.size F];omega)];exact h1
 have T34:∀a w,St a0 w0 K B s 3 4 a w->wpAny prog .any qb1 Q 3 #[true,true,true,true,true,true,true,false,false,false] a w:=fun a w h=>by
  have er:Region.ready .any qb1 #[true,true,true,true,true,true,true,false,false,false]=[7]:=by kernel_rfl
  refine⟨fun hr=>(by rw[er] at hr;cases hr),fun k hk=>?_⟩;rw[er] at hk;have hk':=hk;rw[zlw] at hk';subst hk';exact goB4 F h T35
 have T25:∀a w,St a0 w0 K B s 2 5 a w->wpAny prog .any qb1 Q 3 #[true,true,false,true,true,true,true,true,false,false] a w:=fun a w h=>by
  have er:Region.ready .any qb1 #[true,true,false,true,true,true,true,true,false,false]=[2]:=by kernel_rfl
  refine⟨fun hr=>(by rw[er] at hr;cases hr),fun k hk=>?_⟩;rw[er] at hk;have hk':=hk;rw[zlw] at hk';subst hk';exact goA2 F h T35
 have T33:∀a w,St a0 w0 K B s 3 3 a w->wpAny prog .any qb1 Q 4 #[true,true,true,true,true,true,false,false,false,false] a w:=fun a w h=>by
  have er:Region.ready .any qb1 #[true,true,true,true,true,true,false,false,false,false]=[6]:=by kernel_rfl
  refine⟨fun hr=>(by rw[er] at hr;cases hr),fun k hk=>?_⟩;rw[er] at hk;have hk':=hk;rw[zlw] at hk';subst hk';exact goB3 F h T34
 have T24:∀a w,St a0 w0 K B s 2 4 a w->wpAny prog .any qb1 Q 4 #[true,true,false,true,true,true,true,false,false,false] a w:=fun a w h=>by
  have er:Region.ready .any qb1 #[true,true,false,true,true,true,true,false,false,false]=[2,7]:=by kernel_rfl
  refine⟨fun hr=>(by rw[er] at hr;cases hr),fun k hk=>?_⟩;rw[er] at hk;have hk':=hk;rw[List.mem_cons,zlw] at hk';rcases hk' with rfl|rfl
  ·exact goA2 F h T34
  ·exact goB4 F h T25
 have T15:∀a w,St a0 w0 K B s 1 5 a w->wpAny prog .any qb1 Q 4 #[true,false,false,true,true,true,true,true,false,false] a w:=fun a w h=>by
  have er:Region.ready .any qb1 #[true,false,false,true,true,true,true,true,false,false]=[1]:=by kernel_rfl
  refine⟨fun hr=>(by rw[er] at hr;cases hr),fun k hk=>?_⟩;rw[er] at hk;have hk':=hk;rw[zlw] at hk';subst hk';exact goA1 F h T25
 have T32:∀a w,St a0 w0 K B s 3 2 a w->wpAny prog .any qb1 Q 5 #[true,true,true,true,true,false,false,false,false,false] a w:=fun a w h=>by
  have er:Region.ready .any qb1 #[true,true,true,true,true,false,false,false,false,false]=[5]:=by kernel_rfl
  refine⟨fun hr=>(by rw[er] at hr;cases hr),fun k hk=>?_⟩;rw[er] at hk;have hk':=hk;rw[zlw] at hk';subst hk';exact goB2 F h T33
 have T23:∀a w,St a0 w0 K B s 2 3 a w->wpAny prog .any qb1 Q 5 #[true,true,false,true,true,true,false,false,false,false] a w:=fun a w h=>by
  have er:Region.ready .any qb1 #[true,true,false,true,true,true,false,false,false,false]=[2,6]:=by kernel_rfl
  refine⟨fun hr=>(by rw[er] at hr;cases hr),fun k hk=>?_⟩;rw[er] at hk;have hk':=hk;rw[List.mem_cons,zlw] at hk';rcases hk' with rfl|rfl
  ·exact goA2 F h T33
  ·exact goB3 F h T24
 have T14:∀a w,St a0 w0 K B s 1 4 a w->wpAny prog .any qb1 Q 5 #[true,false,false,true,true,true,true,false,false,false] a w:=fun a w h=>by
  have er:Region.ready .any qb1 #[true,false,false,true,true,true,true,false,false,false]=[1,7]:=by kernel_rfl
  refine⟨fun hr=>(by rw[er] at hr;cases hr),fun k hk=>?_⟩;rw[er] at hk;have hk':=hk;rw[List.mem_cons,zlw] at hk';rcases hk' with rfl|rfl
  ·exact goA1 F h T24
  ·exact goB4 F h T15
 have T05:∀a w,St a0 w0 K B s 0 5 a w->wpAny prog .any qb1 Q 5 #[false,false,false,true,true,true,true,true,false,false] a w:=fun a w h=>by
  have er:Region.ready .any qb1 #[false,false,false,true,true,true,true,true,false,false]=[0]:=by kernel_rfl
  refine⟨fun hr=>(by rw[er] at hr;cases hr),fun k hk=>?_⟩;rw[er] at hk;have hk':=hk;rw[zlw] at hk';subst hk';exact goA0 F h T15
 have T31:∀a w,St a0 w0 K B s 3 1 a w->wpAny prog .any qb1 Q 6 #[true,true,true,true,false,false,false,false,false,false] a w:=fun a w h=>by
  have er:Region.ready .any qb1 #[true,true,true,true,false,false,false,false,false,false]=[4]:=by kernel_rfl
  refine⟨fun hr=>(by rw[er] at hr;cases hr),fun k hk=>?_⟩;rw[er] at hk;have hk':=hk;rw[zlw] at hk';subst hk';exact goB1 F h T32
 have T22:∀a w,St a0 w0 K B s 2 2 a w->wpAny prog .any qb1 Q 6 #[true,true,false,true,true,false,false,false,false,false] a w:=fun a w h=>by
  have er:Region.ready .any qb1 #[true,true,false,true,true,false,false,false,false,false]=[2,5]:=by kernel_rfl
  refine⟨fun hr=>(by rw[er] at hr;cases hr),fun k hk=>?_⟩;rw[er] at hk;have hk':=hk;rw[List.mem_cons,zlw] at hk';rcases hk' with rfl|rfl
  ·exact goA2 F h T32
  ·exact goB2 F h T23
 have T13:∀a w,St a0 w0 K B s 1 3 a w->wpAny prog .any qb1 Q 6 #[true,false,false,true,true,true,false,false,false,false] a w:=fun a w h=>by
  have er:Region.ready .any qb1 #[true,false,false,true,true,true,false,false,false,false]=[1,6]:=by kernel_rfl
  refine⟨fun hr=>(by rw[er] at hr;cases hr),fun k hk=>?_⟩;rw[er] at hk;have hk':=hk;rw[List.mem_cons,zlw] at hk';rcases hk' with rfl|rfl
  ·exact goA1 F h T23
  ·exact goB3 F h T14
 have T04:∀a w,St a0 w0 K B s 0 4 a w->wpAny prog .any qb1 Q 6 #[false,false,false,true,true,true,true,false,false,false] a w:=fun a w h=>by
  have er:Region.ready .any qb1 #[false,false,false,true,true,true,true,false,false,false]=[0,7]:=by kernel_rfl
  refine⟨fun hr=>(by rw[er] at hr;cases hr),fun k hk=>?_⟩;rw[er] at hk;have hk':=hk;rw[List.mem_cons,zlw] at hk';rcases hk' with rfl|rfl
  ·exact goA0 F h T14
  ·exact goB4 F h T05
 have T30:∀a w,St a0 w0 K B s 3 0 a w->wpAny prog .any qb1 Q 7 #[true,true,true,false,false,false,false,false,false,false] a w:=fun a w h=>by
  have er:Region.ready .any qb1 #[true,true,true,false,false,false,false,false,false,false]=[3]:=by kernel_rfl
  refine⟨fun hr=>(by rw[er] at hr;cases hr),fun k hk=>?_⟩;rw[er] at hk;have hk':=hk;rw[zlw] at hk';subst hk';exact goB0 F h T31
 have T21:∀a w,St a0 w0 K B s 2 1 a w->wpAny prog .any qb1 Q 7 #[true,true,false,true,false,false,false,false,false,false] a w:=fun a w h=>by
  have er:Region.ready .any qb1 #[true,true,false,true,false,false,false,false,false,false]=[2,4]:=by kernel_rfl
  refine⟨fun hr=>(by rw[er] at hr;cases hr),fun k hk=>?_⟩;rw[er] at hk;have hk':=hk;rw[List.mem_cons,zlw] at hk';rcases hk' with rfl|rfl
  ·exact goA2 F h T31
  ·exact goB1 F h T22
 have T12:∀a w,St a0 w0 K B s 1 2 a w->wpAny prog .any qb1 Q 7 #[true,false,false,true,true,false,false,false,false,false] a w:=fun a w h=>by
  have er:Region.ready .any qb1 #[true,false,false,true,true,false,false,false,false,false]=[1,5]:=by kernel_rfl
  refine⟨fun hr=>(by rw[er] at hr;cases hr),fun k hk=>?_⟩;rw[er] at hk;have hk':=hk;rw[List.mem_cons,zlw] at hk';rcases hk' with rfl|rfl
  ·exact goA1 F h T22
  ·exact goB2 F h T13
 have T03:∀a w,St a0 w0 K B s 0 3 a w->wpAny prog .any qb1 Q 7 #[false,false,false,true,true,true,false,false,false,false] a w:=fun a w h=>by
  have er:Region.ready .any qb1 #[false,false,false,true,true,true,false,false,false,false]=[0,6]:=by kernel_rfl
  refine⟨fun hr=>(by rw[er] at hr;cases hr),fun k hk=>?_⟩;rw[er] at hk;have hk':=hk;rw[List.mem_cons,zlw] at hk';rcases hk' with rfl|rfl
  ·exact goA0 F h T13
  ·exact goB3 F h T04
 have T20:∀a w,St a0 w0 K B s 2 0 a w->wpAny prog .any qb1 Q 8 #[true,true,false,false,false,false,false,false,false,false] a w:=fun a w h=>by
  have er:Region.ready .any qb1 #[true,true,false,false,false,false,false,false,false,false]=[2,3]:=by kernel_rfl
  refine⟨fun hr=>(by rw[er] at hr;cases hr),fun k hk=>?_⟩;rw[er] at hk;have hk':=hk;rw[List.mem_cons,zlw] at hk';rcases hk' with rfl|rfl
  ·exact goA2 F h T30
  ·exact goB0 F h T21
 have T11:∀a w,St a0 w0 K B s 1 1 a w->wpAny prog .any qb1 Q 8 #[true,false,false,true,false,false,false,false,false,false] a w:=fun a w h=>by
  have er:Region.ready .any qb1 #[true,false,false,true,false,false,false,false,false,false]=[1,4]:=by kernel_rfl
  refine⟨fun hr=>(by rw[er] at hr;cases hr),fun k hk=>?_⟩;rw[er] at hk;have hk':=hk;rw[List.mem_cons,zlw] at hk';rcases hk' with rfl|rfl
  ·exact goA1 F h T21
  ·exact goB1 F h T12
 have T02:∀a w,St a0 w0 K B s 0 2 a w->wpAny prog .any qb1 Q 8 #[false,false,false,true,true,false,false,false,false,false] a w:=fun a w h=>by
  have er:Region.ready .any qb1 #[false,false,false,true,true,false,false,false,false,false]=[0,5]:=by kernel_rfl
  refine⟨fun hr=>(by rw[er] at hr;cases hr),fun k hk=>?_⟩;rw[er] at hk;have hk':=hk;rw[List.mem_cons,zlw] at hk';rcases hk' with rfl|rfl
  ·exact goA0 F h T12
  ·exact goB2 F h T03
 have T10:∀a w,St a0 w0 K B s 1 0 a w->wpAny prog .any qb1 Q 9 #[true,false,false,false,false,false,false,false,false,false] a w:=fun a w h=>by
  have er:Region.ready .any qb1 #[true,false,false,false,false,false,false,false,false,false]=[1,3]:=by kernel_rfl
  refine⟨fun hr=>(by rw[er] at hr;cases hr),fun k hk=>?_⟩;rw[er] at hk;have hk':=hk;rw[List.mem_cons,zlw] at hk';rcases hk' with rfl|rfl
  ·exact goA1 F h T20
  ·exact goB0 F h T11
 have T01:∀a w,St a0 w0 K B s 0 1 a w->wpAny prog .any qb1 Q 9 #[false,false,false,true,false,false,false,false,false,false] a w:=fun a w h=>by
  have er:Region.ready .any qb1 #[false,false,false,true,false,false,false,false,false,false]=[0,4]:=by kernel_rfl
  refine⟨fun hr=>(by rw[er] at hr;cases hr),fun k hk=>?_⟩;rw[er] at hk;have hk':=hk;rw[List.mem_cons,zlw] at hk';rcases hk' with rfl|rfl
  ·exact goA0 F h T11
  ·exact goB1 F h T02
 have T00:∀a w,St a0 w0 K B s 0 0 a w->wpAny prog .any qb1 Q 10 #[false,false,false,false,false,false,false,false,false,false] a w:=fun a w h=>by
  have er:Region.ready .any qb1 #[false,false,false,false,false,false,false,false,false,false]=[0,3]:=by kernel_rfl
  refine⟨fun hr=>(by rw[er] at hr;cases hr),fun k hk=>?_⟩;rw[er] at hk;have hk':=hk;rw[List.mem_cons,zlw] at hk';rcases hk' with rfl|rfl
  ·exact goA0 F h T10
  ·exact goB0 F h T01
 refine wp_region_any (by kernel_rfl) (T00 a0 _ ⟨⟨rfl,rfl,fun _ _ _=>rfl⟩,(Below.refl K w0).drew,⟨fun hx=>by omega,fun hx=>by omega,fun hx=>by omega⟩,⟨fun hx=>by omega,fun hx=>by omega,fun hx=>by omega,fun hx=>by omega,fun hx=>by omega⟩⟩)
end
end JH
namespace JH
open JB JT JD
theorem rf_ok (tab:Bool)(k:Nat)(n:Int):rfOk n (bs k) (wd k) (mo k&&tab)=okF tab k n:=rfl
theorem rf_out {tab:Bool}{k:Nat}{n:Int}(h:okF tab k n=true):Qcu n (bs k) (wd k) (mo k&&tab)=qkr tab k n:=by
 unfold Qcu qkr;unfold okF at h;split
 ·rfl
 ·rename_i hm
  rw[if_neg hm,zlx,decide_eq_true_eq,decide_eq_true_eq] at h;have hw:=Qaf k;rw[(Qgs (n:=n) (b:=bs k) (w:=wd k) ⟨Qcs k,qdx.2 (by omega)⟩ ⟨h.1,by rw[zlt];omega⟩).2,zlt,zlt]
theorem qsj {s:ByteArray}{f:Nat->Int}(h:qjb s f=0):qb4 s f 5=true:=by
 unfold qjb at h;split at h
 ·split at h
  ·assumption
  ·omega
 ·omega
def IfOk (c:Bool)(P:Prop):Prop:=c=true->P
theorem qd3 (tab:Bool)(k:Nat)(n:Int)(w:World)(hn:n<9223372036854775808)(c:Bool)(hc:okF tab k n=c):
 Calls prog 135 #[.int .i64 n,.int .i64 (bs k:Int),.int .i64 (wd k:Int),.bool (mo k&&tab)] w fun e w'=>
  ∃v,e=.returned (.tuple #[v,.bool c])/\IfOk c (Own w' w.heap.size v (wd k) (qkr tab k n))/\Below w.heap.size w w':=by
 refine (Qam n (bs k) (wd k) (mo k&&tab) w hn (Qcs k) (qdx.2 (by have:=Qaf k;omega))).mono fun e w' ⟨v,h1,h2,h3⟩=>⟨v,?_,fun ht=>?_,h3⟩
 ·rw[h1,rf_ok,hc]
 ·rw[rf_out (hc.trans ht),qja (hc.trans ht)] at h2;exact h2
theorem qu7 (s:ByteArray)(t u g m z:Int)(w:World)(hs:s.size<=140737488355328)(h:qaa s=false):
 Calls prog 94 #[.agg #[.string s,.int .i64 t,.int .i64 u,.int .i64 g,.int .i64 m,.int .i64 z]] w (qc9 s (num t u g m z) w):=by
 have Hf:=hid fun w' (hb:Below w.heap.size w w')=>qc9.empty (qyq (f:=num t u g m z) h) hb;go_enter func94,ntmps94;go_wp2_with (go_at_call 131;refine (qhn s _ hs).mono ?_;rintro e w1 ⟨rfl,m1,hw1⟩;rw[h,hw1])
 go_ret2
 exact Hf.out _ (((Below.refl _ _).alloc zjn _).trans (qa0 _ _))
theorem qx5 (s:ByteArray)(t u g m z:Int)(w:World)(h:qaa s=true)(x0 x1 x2 x3 x4:Bool)(e0:okF (qa5 s) 0 t=x0)(e1:okF (qa5 s) 1 u=x1)(e2:okF (qa5 s) 2 g=x2)(e3:okF (qa5 s) 3 m=x3)(e4:okF (qa5 s) 4 z=x4)(hx:(x0&&x1&&x2&&x3&&x4)=false)(l0:t<9223372036854775808)(l1:u<9223372036854775808)(l2:g<9223372036854775808)(l3:m<9223372036854775808)(l4:z<9223372036854775808):
 Calls prog 94 #[.agg #[.string s,.int .i64 t,.int .i64 u,.int .i64 g,.int .i64 m,.int .i64 z]] w (qc9 s (num t u g m z) w):=by
 obtain⟨s1,s2,_,_⟩:=qbu.1 h
 have hall:qb4 s (num t u g m z) 5=false:=by
  show (((((true&&okF (qa5 s) 0 t)&&okF (qa5 s) 1 u)&&okF (qa5 s) 2 g)&&okF (qa5 s) 3 m)&&okF (qa5 s) 4 z)=false
  rw[e0,e1,e2,e3,e4,Bool.true_and];exact hx
 have H9:=hid fun w' (hb:Below w.heap.size w w')=>qc9.empty (qu3 h hall) hb;have H0:=hid fun w'=>qd3 (qa5 s) 0 t w' l0 x0 e0;have H1:=hid fun w'=>qd3 (qa5 s) 1 u w' l1 x1 e1;have H2:=hid fun w'=>qd3 (qa5 s) 2 g w' l2 x2 e2;have H3:=hid fun w'=>qd3 (qa5 s) 3 m w' l3 x3 e3;have H4:=hid fun w'=>qd3 (qa5 s) 4 z w' l4 x4 e4;clear hall e0 e1 e2 e3 e4 l0 l1 l2 l3 l4;have HbA:=hid (show Below w.heap.size w (w.alloc (.cells #[.string s,.int .i64 t,.int .i64 u,.int .i64 g,.int .i64 m,.int .i64 z] 155)) from (Below.refl _ _).alloc zjn _);go_enter func94,ntmps94;go_wp2_with fail
 refine (qhn s _ (by omega)).mono ?_;rintro e w1 ⟨rfl,m1,hw1⟩;rw[h];have hat1:HAt w1 w.heap.size s t u g m z:=by rw[hw1];exact HAt.new w s t u g m z 155
 have Hb1:=hid (show Below w.heap.size w w1 by rw[hw1];exact HbA.out.trans (qa0 _ _));have hz1:w.heap.size<w1.heap.size:=hat1.2.2.2.2.2.2;clear hw1 HbA;obtain⟨c0,c1,c2,c3,c4,c5,_⟩:=hat1;go_wp2_with fail
 refine (H0.out _).mono ?_;rintro e w2 ⟨v0,rfl,ho0,hb2⟩;have g2:=hb2;have k2:=qa7 g2 hz1;go_wp2_with fail
 refine (H1.out _).mono ?_;rintro e w3 ⟨v1,rfl,ho1,hb3⟩;have g3:=g2.trans (hb3.mono g2.size);have k3:=qa7 g3 hz1;go_wp2_with fail
 refine (H2.out _).mono ?_;rintro e w4 ⟨v2,rfl,ho2,hb4⟩;have g4:=g3.trans (hb4.mono g3.size);have k4:=qa7 g4 hz1;go_wp2_with fail
 refine (H3.out _).mono ?_;rintro e w5 ⟨v3,rfl,ho3,hb5⟩;have g5:=g4.trans (hb5.mono g4.size);have k5:=qa7 g5 hz1;go_wp2_with fail
 refine (H4.out _).mono ?_;rintro e w6 ⟨v4,rfl,ho4,hb6⟩;have g6:=g5.trans (hb6.mono g5.size);have k6:=qa7 g6 hz1;have HbF:=hid (Hb1.out.trans (g6.mono (Nat.le_of_lt hz1)));clear hb2 hb3 hb4 hb5 hb6 g2 g3 g4 g5 g6 ho0 ho1 ho2 ho3 ho4 k2 k3 k4 k5;cases x0
 ·clear hx;go_wp2_with fail
  go_ret2
  exact H9.out _ HbF.out
 ·cases x1
  ·clear hx;go_wp2_with fail
   go_ret2
   exact H9.out _ HbF.out
  ·cases x2
   ·clear hx;go_wp2_with fail
    go_ret2
    exact H9.out _ HbF.out
   ·cases x3
    ·clear hx;go_wp2_with fail
     go_ret2
     exact H9.out _ HbF.out
    ·cases x4
     ·clear hx;go_wp2_with fail
      go_ret2
      exact H9.out _ HbF.out
     ·cases hx
theorem Qan (s:ByteArray)(t u g m z:Int)(w:World)(h:qaa s=true)(e0:okF (qa5 s) 0 t=true)(e1:okF (qa5 s) 1 u=true)(e2:okF (qa5 s) 2 g=true)(e3:okF (qa5 s) 3 m=true)(e4:okF (qa5 s) 4 z=true)(l0:t<9223372036854775808)(l1:u<9223372036854775808)(l2:g<9223372036854775808)(l3:m<9223372036854775808)(l4:z<9223372036854775808):
 Calls prog 94 #[.agg #[.string s,.int .i64 t,.int .i64 u,.int .i64 g,.int .i64 m,.int .i64 z]] w (qc9 s (num t u g m z) w):=by
 obtain⟨s1,s2,_,_⟩:=qbu.1 h
 have hall:qb4 s (num t u g m z) 5=true:=by
  show (((((true&&okF (qa5 s) 0 t)&&okF (qa5 s) 1 u)&&okF (qa5 s) 2 g)&&okF (qa5 s) 3 m)&&okF (qa5 s) 4 z)=true
  rw[e0,e1,e2,e3,e4];rfl
 have E0:=hid (qjw h hall);have H0:=hid fun w'=>qd3 (qa5 s) 0 t w' l0 true e0;have H1:=hid fun w'=>qd3 (qa5 s) 1 u w' l1 true e1;have H2:=hid fun w'=>qd3 (qa5 s) 2 g w' l2 true e2;have H3:=hid fun w'=>qd3 (qa5 s) 3 m w' l3 true e3;have H4:=hid fun w'=>qd3 (qa5 s) 4 z w' l4 true e4;clear hall e0 e1 e2 e3 e4 l0 l1 l2 l3 l4;have HbA:=hid (show Below w.heap.size w (w.alloc (.cells #[.string s,.int .i64 t,.int .i64 u,.int .i64 g,.int .i64 m,.int .i64 z] 155)) from (Below.refl _ _).alloc zjn _);go_enter func94,ntmps94;go_wp2_with fail
 refine (qhn s _ (by omega)).mono ?_;rintro e w1 ⟨rfl,m1,hw1⟩;rw[h];have hat1:HAt w1 w.heap.size s t u g m z:=by rw[hw1];exact HAt.new w s t u g m z 155
 have Hb1:=hid (show Below w.heap.size w w1 by rw[hw1];exact HbA.out.trans (qa0 _ _));have hz1:w.heap.size<w1.heap.size:=hat1.2.2.2.2.2.2;clear hw1 HbA;obtain⟨c0,c1,c2,c3,c4,c5,_⟩:=hat1;go_wp2_with fail
 refine (H0.out _).mono ?_;rintro e w2 ⟨v0,rfl,ho0,hb2⟩;have g2:=hb2;have k2:=qa7 g2 hz1;go_wp2_with fail
 refine (H1.out _).mono ?_;rintro e w3 ⟨v1,rfl,ho1,hb3⟩;have g3:=g2.trans (hb3.mono g2.size);have k3:=qa7 g3 hz1;go_wp2_with fail
 refine (H2.out _).mono ?_;rintro e w4 ⟨v2,rfl,ho2,hb4⟩;have g4:=g3.trans (hb4.mono g3.size);have k4:=qa7 g4 hz1;go_wp2_with fail
 refine (H3.out _).mono ?_;rintro e w5 ⟨v3,rfl,ho3,hb5⟩;have g5:=g4.trans (hb5.mono g4.size);have k5:=qa7 g5 hz1;go_wp2_with fail
 refine (H4.out _).mono ?_;rintro e w6 ⟨v4,rfl,ho4,hb6⟩;have g6:=g5.trans (hb6.mono g5.size);have k6:=qa7 g6 hz1;have HbF:=hid (Hb1.out.trans (g6.mono (Nat.le_of_lt hz1)));have hz6:w.heap.size<w6.heap.size:=Nat.lt_of_lt_of_le hz1 g6.size;have Hc:=hid (show w6.cell? ⟨w.heap.size,0,none⟩=some (.string s) by rw[k6];exact c0);obtain⟨A0,cp0,rfl,r0,_,_⟩:=((((ho0 rfl).below hb3).below hb4).below hb5).below hb6 |>.reads
 obtain⟨A1,cp1,rfl,r1,_,_⟩:=(((ho1 rfl).below hb4).below hb5).below hb6 |>.reads
 obtain⟨A2,cp2,rfl,r2,_,_⟩:=((ho2 rfl).below hb5).below hb6 |>.reads
 obtain⟨A3,cp3,rfl,r3,_,_⟩:=(ho3 rfl).below hb6 |>.reads
 obtain⟨A4,cp4,rfl,r4,_,_⟩:=(ho4 rfl).reads;have R0:=hid r0;have R1:=hid r1;have R2:=hid r2;have R3:=hid r3;have R4:=hid r4;clear hb2 hb3 hb4 hb5 hb6 g2 g3 g4 g5 g6 ho0 ho1 ho2 ho3 ho4 k2 k3 k4 k5 r0 r1 r2 r3 r4;go_upto_region 11 with (fail)
 refine region11 (K:=w6.heap.size) (B:=w.heap.size) (s:=s) ⟨rfl,rfl,Hc.out,hz6,Nat.le_refl _,s2⟩ ?_;intro u75 u76 u77 u78 u79 u80 u81 u82 u83 v w7 hown7 hb7;simp only[built,Act.put]
 go_wp2_with (first
  |(at_builtin;refine qah _ w6.heap.size _ 16 _ hown7 hb7.size A0 (wd 0) cp0 _ _ (R0.out.below hb7) (by decide) rfl (.tmp 84) (.tmp 85) rfl rfl rfl ?_;intro v8 w8 hown8 hb8;have g8:=hb7.trans hb8)
  |(at_builtin;refine qah _ w6.heap.size _ (16+wd 0) _ hown8 g8.size A1 (wd 1) cp1 _ _ (R1.out.below g8) (by decide) rfl (.tmp 86) (.tmp 87) rfl rfl rfl ?_;intro v9 w9 hown9 hb9;have g9:=g8.trans hb9)
  |(at_builtin;refine qah _ w6.heap.size _ (16+wd 0+wd 1) _ hown9 g9.size A2 (wd 2) cp2 _ _ (R2.out.below g9) (by decide) rfl (.tmp 88) (.tmp 89) rfl rfl rfl ?_;intro v10 w10 hown10 hb10;have g10:=g9.trans hb10)
  |(at_builtin;refine qah _ w6.heap.size _ (16+wd 0+wd 1+wd 2) _ hown10 g10.size A3 (wd 3) cp3 _ _ (R3.out.below g10) (by decide) rfl (.tmp 90) (.tmp 91) rfl rfl rfl ?_;intro v11 w11 hown11 hb11;have g11:=g10.trans hb11)
  |(at_builtin;refine qah _ w6.heap.size _ (16+wd 0+wd 1+wd 2+wd 3) _ hown11 g11.size A4 (wd 4) cp4 _ _ (R4.out.below g11) (by decide) rfl (.tmp 92) (.tmp 93) rfl rfl rfl ?_;intro v12 w12 hown12 hb12;have g12:=g11.trans hb12)
  |(at_builtin;refine qah _ w6.heap.size _ (16+wd 0+wd 1+wd 2+wd 3+wd 4) _ (hown12.alloc _) (by simp;exact Nat.le_succ_of_le g12.size) (some ⟨w12.heap.size,0,none⟩) 2 2 _ [96,10] (Rd.lit w12 [96,10] _ rfl 2 rfl) (by decide) rfl (.tmp 95) (.tmp 96) rfl rfl rfl ?_;intro v13 w13 hown13 hb13))
 go_ret2
 refine⟨_,by rw[E0.out.1];rfl,?_,HbF.out.trans (((g12.alloc g12.size _).trans hb13).mono (Nat.le_of_lt hz6))⟩;have e1:(qqy s (num t u g m z)).length=off 5+2:=by rw[E0.out.2,zlb,qch s2 5 (qsj E0.out.1)];rfl
 rw[e1,E0.out.2];exact hown13.more (Nat.le_of_lt hz6)
theorem qnw (s:ByteArray)(t u g m z:Int)(w:World)(hs:s.size<=140737488355328)(l0:t<9223372036854775808)(l1:u<9223372036854775808)(l2:g<9223372036854775808)(l3:m<9223372036854775808)(l4:z<9223372036854775808):
 Calls prog 94 #[.agg #[.string s,.int .i64 t,.int .i64 u,.int .i64 g,.int .i64 m,.int .i64 z]] w (qc9 s (num t u g m z) w):=by
 cases h:qaa s
 ·exact qu7 s t u g m z w hs h
 ·cases hx:(okF (qa5 s) 0 t&&okF (qa5 s) 1 u&&okF (qa5 s) 2 g&&okF (qa5 s) 3 m&&okF (qa5 s) 4 z)
  ·exact qx5 s t u g m z w h _ _ _ _ _ rfl rfl rfl rfl rfl hx l0 l1 l2 l3 l4
  ·simp only[zlx] at hx;obtain⟨⟨⟨⟨e0,e1⟩,e2⟩,e3⟩,e4⟩:=hx;exact Qan s t u g m z w h e0 e1 e2 e3 e4 l0 l1 l2 l3 l4
theorem qx6 (x:List UInt8):(x==List.replicate x.length 32)=qdg x:=by
 unfold qdg;rw[Bool.eq_iff_iff,beq_iff_eq,List.all_eq_true];constructor
 ·intro h b hb;rw[h] at hb;have:=(List.mem_replicate.1 hb).2;simp[this]
 ·intro h;exact List.eq_replicate_iff.2 ⟨rfl,fun b hb=>by simpa using h b hb⟩
def Num (o:Option Nat)(w:World)(e:Ending)(w':World):Prop:=e=.returned (.tuple #[.int .i64 ((o.getD 0:Nat):Int),.bool o.isSome])/\Below w.heap.size w w'
def spO (x:List UInt8):Option Nat:=if qdg x=true then some 0 else none
theorem qsk (K:Nat)(A:Option Addr)(n c:Nat)(b:Int)(x:List UInt8)(w:World)(hr:Rd w K A n x)(hK:K<=w.heap.size)(hn:n<=1000):
 Calls prog 132 #[.slice A n c,.int .i64 b,.bool true] w (Num (spO x) w):=by
 have Hs:=hid fun w'=>qj9 n w' hn;have hsp:=qx6 x;rw[hr.1] at hsp
 have Hf:Hid (∀w',Below w.heap.size w w'->Num (spO x) w (.returned (.tuple #[.int .i64 0,.bool (x==List.replicate n 32)])) w'):=hid fun w' hb=>by
  rw[hsp];unfold spO;refine⟨?_,hb⟩;cases qdg x<;>rfl
 clear hsp;go_enter func132,ntmps132;go_wp2_with fail
 refine (Hs.out _).mono ?_;rintro e w1 ⟨v1,rfl,hown1,hb1⟩;obtain⟨A1,c1,rfl,r1,_,_⟩:=hown1.reads;have HS:=hid (qe7 _ rfl _ _ A A1 n c n c1 x (List.replicate n 32) w1 (hr.below (hb1.mono hK)) r1 (by omega));have Hb1:=hid hb1;clear hown1 r1 hb1 hr;go_wp2_with fail
 refine HS.out.mono ?_;rintro e w2 ⟨rfl,m2,rfl⟩;go_wp2_with fail
 go_ret2
 exact Hf.out _ (Hb1.out.trans (qa0 _ _))
theorem qx7 (K:Nat)(A:Option Addr)(n c:Nat)(b:Nat)(x:List UInt8)(w:World)(hr:Rd w K A n x)(hK:K<=w.heap.size)(hb:vb (b:Int)=true)(hn:vw (n:Int)=true):
 Calls prog 132 #[.slice A n c,.int .i64 (b:Int),.bool false] w (Num (qcv b x) w):=by
 have Hp:=hid (qm2 K A n c x b w hr hK)
 have Hf:Hid (∀w',Below w.heap.size w w'->Num (qcv b x) w (.returned (.tuple #[.int .i64 (qxt x b),.bool (qcz x b==0)])) w'):=hid fun w' h2=>by
  refine⟨?_,h2⟩
  cases hx:qcv b x with
  |none=>
   have h0:=qwu (l:=x) (b:=b) ⟨hb,by rw[hr.1];exact hn⟩ (by rw[zlt];exact hx);rw[h0.1,h0.2];rfl
  |some v=>
   have h0:=qhr (l:=x) (b:=b) ⟨hb,by rw[hr.1];exact hn⟩ (n:=v) (by rw[zlt];exact hx);rw[h0.1,h0.2];rfl
 clear hr hb hn;go_enter func132,ntmps132;go_wp2_with fail
 refine Hp.out.mono ?_;rintro e w1 ⟨rfl,hb1⟩;go_wp2_with fail
 go_ret2
 exact Hf.out _ hb1
theorem qgd (tab:Bool)(k:Nat)(K:Nat)(A:Option Addr)(c:Nat)(x:List UInt8)(w:World)(hr:Rd w K A (wd k) x)(hK:K<=w.heap.size):
 Calls prog 132 #[.slice A (wd k) c,.int .i64 (bs k:Int),.bool (mo k&&tab)] w (Num (rdF tab k x) w):=by
 have hw:=Qaf k;cases h:(mo k&&tab)
 ·have e:rdF tab k x=qcv (bs k) x:=by unfold rdF;rw[if_neg (by rw[h];simp)]
  rw[e];exact qx7 K A (wd k) c (bs k) x w hr hK (Qcs k) (qdx.2 (by omega))
 ·have e:rdF tab k x=spO x:=by unfold rdF spO;rw[if_pos h]
  rw[e];exact qsk K A (wd k) c (bs k) x w hr hK (by omega)
theorem qsm {l:List UInt8}(h:60<=l.length):(l.drop 58).take 2=[96,10]↔(l[58]'(by omega)=96/\l[59]'(by omega)=10):=by
 have e:(l.drop 58).take 2=[l[58]'(by omega),l[59]'(by omega)]:=by
  rw[List.drop_eq_getElem_cons (by omega),List.drop_eq_getElem_cons (by omega)];rfl
 rw[e];simp
theorem qjx {l:List UInt8}{j:Nat}(h:l.take 16=l.take j++List.replicate (16-j) 32)(hs:Lib.hasSuffix (l.take j) [32]=false):by_ (nm l)=l.take j:=by
 rw[by_nm,h];exact qyt hs _
theorem qx8 {l:List UInt8}{j:Nat}(h:by_ (nm l)=l.take j):ByteArray.mk (l.take j).toArray=nm l:=by
 apply by_inj;rw[h];rfl
theorem qr7 (l:List UInt8):l.take 16=l.take 16++List.replicate (16-16) 32:=by simp
theorem qu8 {l:List UInt8}{q:Nat}(hl:60<=l.length)(hq:q<16)(h:l.take 16=l.take (q+1)++List.replicate (16-(q+1)) 32)(h32:l[q]'(by omega)=32):l.take 16=l.take q++List.replicate (16-q) 32:=by
 have e:l.take (q+1)=l.take q++[32]:=by rw[zlg (by omega),h32]
 rw[h,e,zln];congr 1
 rw[show 16-q=(16-(q+1))+1 by omega,List.replicate_succ];rfl
theorem qu9 {l:List UInt8}{q:Nat}(hl:60<=l.length)(hq:q<16)(h32:l[q]'(by omega)≠32):Lib.hasSuffix (l.take (q+1)) [32]=false:=by
 rw[zlg (by omega),qnu,zls];exact fun e=>h32 e.symm
def okc (l:List UInt8)(k j:Nat):Bool:=if j<k then (rdF (qa5 (nm l)) j (qcb l j)).isSome else false
def qnx (l:List UInt8)(k:Nat):Array Value:=#[.bool (okc l k 0),.bool (okc l k 1),.bool (okc l k 2),.bool (okc l k 3),.bool (okc l k 4)]
theorem qx9 {l:List UInt8}{k:Nat}(hk:k<5):(qnx l k).setIfInBounds k (.bool (rdF (qa5 (nm l)) k (qcb l k)).isSome)=qnx l (k+1):=by
 have h5:k=0∨k=1∨k=2∨k=3∨k=4:=by omega
 rcases h5 with rfl|rfl|rfl|rfl|rfl<;>simp[qnx,okc]
theorem Qap {l:List UInt8}{k:Nat}(hk:k<5):(qdv l k).setIfInBounds (k+1) (.int .i64 (((rdF (qa5 (nm l)) k (qcb l k)).getD 0:Nat):Int))=qdv l (k+1):=by
 have h5:k=0∨k=1∨k=2∨k=3∨k=4:=by omega
 rcases h5 with rfl|rfl|rfl|rfl|rfl<;>simp[qdv,val]
theorem qyw {l:List UInt8}(h:∀j,j<5->okc l 5 j=true):∀k,k<=5->qeq l k=true
 |0,_=>rfl
 |k+1,hk=>by
  have h1:=h k (by omega);unfold okc at h1;rw[if_pos (by omega)] at h1;simp only[qeq,qyw h k (by omega),h1];rfl
theorem Qcy {l:List UInt8}{j:Nat}(hj:j<5)(h:okc l 5 j=false):qeq l 5=false:=by
 unfold okc at h;rw[if_pos hj] at h;refine qbc (k:=j) ?_ 5 hj
 cases hx:rdF (qa5 (nm l)) j (qcb l j) with
 |none=>rfl
 |some v=>rw[hx] at h;cases h
def z23:Obj:=.cells #[.string ⟨#[]⟩,.int .i64 0,.int .i64 0,.int .i64 0,.int .i64 0,.int .i64 0] 155
theorem qii (w:World)(B:Nat)(cs:Array Value)(h:w.heap[B]?=some (.cells cs 155 (0,0)))(hs:cs.size=6):
 (loadVar 155 ⟨B,0,none⟩).run prog w=.ok (.agg cs) w:=
 run_loadVar_row w B 155 155 cs (0,0) _ h underlying155 rfl (by rw[hs];kernel_rfl)
theorem qny (K:Nat)(A:Option Addr)(n c:Nat)(l:List UInt8)(w:World)(hr:Rd w K A n l)(h:n<60):
 Calls prog 86 #[.slice A n c] w (qad l w):=by
 have Hf:=hid fun w' (hb:Below w.heap.size w w')=>qad.bad (qyr (l:=l) (by rw[hr.1];exact h)) (by decide) hb;go_enter func86,ntmps86;go_wp2_with fail
 exact zlf (v:=.tuple #[.agg #[.string ⟨#[]⟩,.int .i64 0,.int .i64 0,.int .i64 0,.int .i64 0,.int .i64 0],.int .i64 2]) (by simp[results,results86,go_sem]) rfl (Hf.out _ ((Below.refl _ _).alloc zjn _))
theorem Qcz (K b o:Nat)(n c:Nat)(l:List UInt8)(w:World)(hr:Rd w K (some ⟨b,o,none⟩) n l)(hK:K<=w.heap.size)(h:60<=n)(hx:¬(l.drop 58).take 2=[96,10]):
 Calls prog 86 #[.slice (some ⟨b,o,none⟩) n c] w (qad l w):=by
 have hll:60<=l.length:=by rw[hr.1];exact h
 have Hf:=hid fun w' (hb:Below w.heap.size w w')=>qad.bad (derr_4 hll hx) (by decide) hb;have hb0:Below w.heap.size w (w.alloc z23):=(Below.refl _ _).alloc zjn _;have hr1:=((hr.more hK).below hb0);have Hb0:=hid hb0;unfold z23 at Hb0 hr1;obtain⟨b1,o1,e1,hbK,h58⟩:=hr1.2 58 (by omega);obtain⟨b2,o2,e2,_,h59⟩:=hr1.2 59 (by omega);injection e1 with e1;injection e1 with e1 e1';subst e1;subst e1';injection e2 with e2;injection e2 with e2 e2';subst e2;subst e2';rw[qsm hll] at hx;generalize l[58]=x at *;generalize l[59]=y at *;clear hr1 hb0 hr hll;by_cases hx1:x=96
 ·have hy:y≠10:=fun e=>hx ⟨hx1,e⟩;subst hx1
  have t2:((y.toNat:Int) !=10)=true:=by
   rw[bne_iff_ne];intro e;apply hy;rw[<-UInt8.toNat_inj];show y.toNat=10;omega
  clear hx hy;go_enter func86,ntmps86;go_wp2_with fail
  exact zlf (v:=.tuple #[.agg #[.string ⟨#[]⟩,.int .i64 0,.int .i64 0,.int .i64 0,.int .i64 0,.int .i64 0],.int .i64 4]) (by simp[results,results86,go_sem]) rfl (Hf.out _ Hb0.out)
 ·have t1:((x.toNat:Int) !=96)=true:=by
   rw[bne_iff_ne];intro e;apply hx1;rw[<-UInt8.toNat_inj];show x.toNat=96;omega
  clear hx hx1;go_enter func86,ntmps86;go_wp2_with fail
  exact zlf (v:=.tuple #[.agg #[.string ⟨#[]⟩,.int .i64 0,.int .i64 0,.int .i64 0,.int .i64 0,.int .i64 0],.int .i64 4]) (by simp[results,results86,go_sem]) rfl (Hf.out _ Hb0.out)
theorem qde {w w2:World}{m:Nat}{c1 c2:Array Value}{t:TypeId}(h:w2=((w.alloc (.cells c1 t)).alloc (.cells c2 t)).drewN m):
 w2.heap[w.heap.size]?=some (.cells c1 t (0,0))/\w2.heap[w.heap.size+1]?=some (.cells c2 t (0,0))/\w2.heap.size=w.heap.size+2/\Below w.heap.size w w2:=by
 subst h;refine⟨?_,?_,by simp,(((Below.refl _ _).alloc zjn _).alloc (by simp) _).trans (qa0 _ _)⟩
 ·show ((w.alloc (.cells c1 t)).alloc (.cells c2 t)).heap[w.heap.size]?=_
  rw[zlz _ _ _ (by simp)];exact zld w _
 ·show ((w.alloc (.cells c1 t)).alloc (.cells c2 t)).heap[w.heap.size+1]?=_
  have:=zld (w.alloc (.cells c1 t)) (.cells c2 t);rw[zlr] at this;exact this
theorem qcj {w:World}{B:Nat}{cs:Array Value}{t:TypeId}(h:w.heap[B]?=some (.cells cs t (0,0))):∀j,w.frozen? ⟨B,j,none⟩=false:=fun j=>by simp[World.frozen?,h]
theorem Qd0 (K b o:Nat)(n c:Nat)(l:List UInt8)(w:World)(hr:Rd w K (some ⟨b,o,none⟩) n l)(hK:K<=w.heap.size)(h:60<=n)(hc:n<=c)(hx:(l.drop 58).take 2=[96,10])(h6:qaa (nm l)=false):
 Calls prog 86 #[.slice (some ⟨b,o,none⟩) n c] w (qad l w):=by
 have hll:60<=l.length:=by rw[hr.1];exact h
 have Hf:=hid fun w' (hb:Below w.heap.size w w')=>qad.bad (derr_6 hll hx h6) (by decide) hb;have hb0:Below w.heap.size w (w.alloc z23):=(Below.refl _ _).alloc zjn _;have HR0:=hid (hr.more hK);have hr1:=((hr.more hK).below hb0);unfold z23 at hr1;obtain⟨b1,o1,e1,hbK,h58⟩:=hr1.2 58 (by omega);obtain⟨b2,o2,e2,_,h59⟩:=hr1.2 59 (by omega);injection e1 with e1;injection e1 with e1 e1';subst e1;subst e1';injection e2 with e2;injection e2 with e2 e2';subst e2;subst e2';rw[qsm hll] at hx;rw[hx.1] at h58;rw[hx.2] at h59;have HR:=hid hr1;have hns:=qks l;have Hn:=hid fun w'=>qhn (nm l) w' (by omega);have Hll:=hid hll;clear hr1 hb0 hr hx hll;go_enter func86,ntmps86;go_wp2_with fail
 go_loop [4] (fun i=>∃j:Nat,i=.int .i64 (j:Int)/\j<=16/\l.take 16=l.take j++List.replicate (16-j) 32) (fun i=>qj2 i)
 case atStart=>exact⟨16,rfl,by omega,qr7 l⟩
 case round=>
  obtain⟨j,rfl,hj,htr⟩:=hrel;have Htr:=hid htr;clear htr;rcases Nat.eq_zero_or_pos j with rfl|hpos
  ·have hby:=qjx Htr.out (by rw[List.take_zero];exact qr5);have HR2:=hid (HR.out.pre (show 0<=n by omega));have Hnm:=hid (qx8 hby)
   go_wp2_with (first
    |(refine qay _ _ _ _ _ _ HR2.out rfl (.tmp 38) rfl rfl ?_;rw[Hnm.out])
    |(go_at_call 131;refine (Hn.out _).mono ?_;rintro e w2 ⟨rfl,m2,hw2⟩;rw[h6];have hh0:=(qde hw2).1;have hbW:=(qde hw2).2.2.2;have kc:=fun j=>zlc w2 w.heap.size j _ 155 (0,0) hh0;have kz:=qcj hh0;have Hh0:=hid hh0;have HbW:=hid hbW;clear hw2 hh0 hbW))
   have hl:=qii _ _ _ (six w2 w.heap.size _ 155 Hh0.out rfl (.string ⟨#[]⟩) (.int .i64 0) (.int .i64 0) (.int .i64 0) (.int .i64 0) (.int .i64 0)) rfl;exact zlf (v:=.tuple #[.agg #[.string ⟨#[]⟩,.int .i64 0,.int .i64 0,.int .i64 0,.int .i64 0,.int .i64 0],.int .i64 6]) (by simp[results,results86,asAddr,hl]) rfl (Hf.out _ (qba HbW.out zjn _ _ _ _ _ _))
  ·obtain⟨q,rfl⟩:∃q,j=q+1:=⟨j-1,by omega⟩;have hql:q<l.length:=by have:=Hll.out;omega
   obtain⟨b3,o3,e3,_,hq⟩:=HR.out.2 q hql;injection e3 with e3;injection e3 with e3 e3';subst e3;subst e3';have Hst:=hid fun (h32:l[q]'hql=32)=>qu8 Hll.out (show q<16 by omega) Htr.out h32;have Hsp:=hid fun (h32:l[q]'hql≠32)=>qu9 Hll.out (show q<16 by omega) h32;generalize hcq:l[q]'hql=x at *;by_cases h32:x=32
   ·subst h32;have Hs:=hid (Hst.out rfl);clear Hst Hsp;go_wp2_with fail
    go_round
    case rel=>exact⟨q,rfl,by omega,Hs.out⟩
    case measure=>simp[qj2]
   ·have t1:((x.toNat:Int)==32)=false:=by
     rw[zls];intro e;apply h32;rw[<-UInt8.toNat_inj];show x.toNat=32;omega
    have hby:=qjx Htr.out (Hsp.out h32);have HR2:=hid (HR.out.pre (show q+1<=n by omega));have Hnm:=hid (qx8 hby);clear Hst Hsp h32 hcq
    go_wp2_with (first
     |(refine qay _ _ _ _ _ _ HR2.out rfl (.tmp 38) rfl rfl ?_;rw[Hnm.out])
     |(go_at_call 131;refine (Hn.out _).mono ?_;rintro e w2 ⟨rfl,m2,hw2⟩;rw[h6];have hh0:=(qde hw2).1;have hbW:=(qde hw2).2.2.2;have kc:=fun j=>zlc w2 w.heap.size j _ 155 (0,0) hh0;have kz:=qcj hh0;have Hh0:=hid hh0;have HbW:=hid hbW;clear hw2 hh0 hbW))
    have hl:=qii _ _ _ (six w2 w.heap.size _ 155 Hh0.out rfl (.string ⟨#[]⟩) (.int .i64 0) (.int .i64 0) (.int .i64 0) (.int .i64 0) (.int .i64 0)) rfl;exact zlf (v:=.tuple #[.agg #[.string ⟨#[]⟩,.int .i64 0,.int .i64 0,.int .i64 0,.int .i64 0,.int .i64 0],.int .i64 6]) (by simp[results,results86,asAddr,hl]) rfl (Hf.out _ (qba HbW.out zjn _ _ _ _ _ _))
theorem mk5 (w:World):(Go.Instr.makeSlice 213 (.int .i64 5) (.int .i64 5)).run prog w=Go.Result.ok (.slice (some ⟨w.heap.size,0,none⟩) 5 5) (w.alloc (.cells #[.bool false,.bool false,.bool false,.bool false,.bool false] 4)):=by kernel_rfl
theorem qxa {ops:Array Oper}{rest:List Oper}{o:Oper}{a:Act}{Q:Exit->Act->World->Prop}{w w':World}(hgd:o.guard=none)(t:TypeId)(x y:Operand)(ho:o.op=.makeSlice t x y)(vx vy:Value)(hx:a.eval x=vx)(hy:a.eval y=vy)
 (v:Value)(hrun:(Go.Instr.makeSlice t vx vy).run prog w=Go.Result.ok v w')(h:wpList prog ops Q rest (a.put o.dst v) w'):wpList prog ops Q (o::rest) a w:=by
 refine wpList_plain hgd fun K' hK'=>?_;unfold Oper.wp execOp;simp only[ho,hx,hy,Sem.run_bind,Sem.run_pure,hrun,Result.andThen_ok];exact hK' _ _ h
structure RS (w:World) (l:List UInt8) (k:Nat) (W:World):Prop where
 res:W.heap[w.heap.size]?=some (.cells #[.string ⟨#[]⟩,.int .i64 0,.int .i64 0,.int .i64 0,.int .i64 0,.int .i64 0] 155 (0,0))
 hdr:W.heap[w.heap.size+1]?=some (.cells (qdv l k) 155 (0,0))
 oks:W.heap[w.heap.size+2]?=some (.cells (qnx l k) 4 (0,0))
 bel:Below w.heap.size w W
theorem RS.size {w W:World}{l:List UInt8}{k:Nat}(h:RS w l k W):w.heap.size+2<W.heap.size:=(zla.1 h.oks).1
theorem RS.call {w W W':World}{l:List UInt8}{k:Nat}(h:RS w l k W)(hb:Below W.heap.size W W'):RS w l k W':=by
 have hz:=h.size;exact⟨(hb.block _ (by omega)).trans h.res,(hb.block _ (by omega)).trans h.hdr,(hb.block _ (by omega)).trans h.oks,h.bel.trans (hb.mono (by omega))⟩
theorem RS.stores {w W:World}{l:List UInt8}{k:Nat}(h:RS w l k W)(hk:k<5):
 RS w l (k+1) ((W.setCell ⟨w.heap.size+1,k+1,none⟩ (.int .i64 (((rdF (qa5 (nm l)) k (qcb l k)).getD 0:Nat):Int))).setCell ⟨w.heap.size+2,k,none⟩ (.bool (rdF (qa5 (nm l)) k (qcb l k)).isSome)):=by
 have e1:=zly W ⟨w.heap.size+1,k+1,none⟩ (.int .i64 (((rdF (qa5 (nm l)) k (qcb l k)).getD 0:Nat):Int));refine⟨?_,?_,?_,(h.bel.setCell (p:=⟨w.heap.size+1,k+1,none⟩) (by show w.heap.size<=w.heap.size+1;omega) _).setCell (p:=⟨w.heap.size+2,k,none⟩) (by show w.heap.size<=w.heap.size+2;omega) _⟩
 ·rw[zly _ _ _ _ (by show w.heap.size≠w.heap.size+2;omega),e1 _ (by show w.heap.size≠w.heap.size+1;omega)];exact h.res
 ·rw[zly _ _ _ _ (by show w.heap.size+1≠w.heap.size+2;omega),zle _ _ _ _ _ _ h.hdr,Qap hk]
 ·rw[zle _ _ _ (qnx l k) 4 _ (by rw[e1 _ (by show w.heap.size+2≠w.heap.size+1;omega)];exact h.oks),qx9 hk]
theorem RS.read {w W:World}{l:List UInt8}{k b o n:Nat}(h:RS w l k W)(hr:Rd w w.heap.size (some ⟨b,o,none⟩) n l)(hn:60<=n)(hk:k<5):Rd W w.heap.size (some ⟨b,o+off k,none⟩) (wd k) (qcb l k):=qby (hr.below h.bel) hn k hk
theorem Qd1 (K b o:Nat)(n c:Nat)(l:List UInt8)(w:World)(hr:Rd w K (some ⟨b,o,none⟩) n l)(hK:K<=w.heap.size)(h:60<=n)(hc:n<=c)(hx:(l.drop 58).take 2=[96,10])(h6:qaa (nm l)=true):
 Calls prog 86 #[.slice (some ⟨b,o,none⟩) n c] w (qad l w):=by
 have hll:60<=l.length:=by rw[hr.1];exact h
 have H3:=hid fun (h4:qeq l 5=false) w' (hb:Below w.heap.size w w')=>qad.bad (Qct hll hx h6 h4) (by decide) hb;have H0:=hid fun (h4:qeq l 5=true) w' (hb:Below w.heap.size w w')=>qad.good (qys hll hx h6 h4) hb;have hb0:Below w.heap.size w (w.alloc z23):=(Below.refl _ _).alloc zjn _;have HR0:=hid (hr.more hK);have hr1:=((hr.more hK).below hb0);unfold z23 at hr1;obtain⟨b1,o1,e1,hbK,h58⟩:=hr1.2 58 (by omega);obtain⟨b2,o2,e2,_,h59⟩:=hr1.2 59 (by omega);injection e1 with e1;injection e1 with e1 e1';subst e1;subst e1';injection e2 with e2;injection e2 with e2 e2';subst e2;subst e2';rw[qsm hll] at hx;rw[hx.1] at h58;rw[hx.2] at h59;have HR:=hid hr1;have hns:=qks l;have Hn:=hid fun w'=>qhn (nm l) w' (by omega);have Hll:=hid hll;clear hr1 hb0 hr hx hll;go_enter func86,ntmps86;go_wp2_with fail
 go_loop [4] (fun i=>∃j:Nat,i=.int .i64 (j:Int)/\j<=16/\l.take 16=l.take j++List.replicate (16-j) 32) (fun i=>qj2 i)
 case atStart=>exact⟨16,rfl,by omega,qr7 l⟩
 case round=>
  obtain⟨j,rfl,hj,htr⟩:=hrel;have Htr:=hid htr;clear htr;rcases Nat.eq_zero_or_pos j with rfl|hpos
  ·have hby:=qjx Htr.out (by rw[List.take_zero];exact qr5);have h0:=(qbu.1 h6).1;rw[<-qgb,hby] at h0;simp at h0
  ·obtain⟨q,rfl⟩:∃q,j=q+1:=⟨j-1,by omega⟩;have hql:q<l.length:=by have:=Hll.out;omega
   obtain⟨b3,o3,e3,_,hq⟩:=HR.out.2 q hql;injection e3 with e3;injection e3 with e3 e3';subst e3;subst e3';have Hst:=hid fun (h32:l[q]'hql=32)=>qu8 Hll.out (show q<16 by omega) Htr.out h32;have Hsp:=hid fun (h32:l[q]'hql≠32)=>qu9 Hll.out (show q<16 by omega) h32;generalize hcq:l[q]'hql=x at *;by_cases h32:x=32
   ·subst h32;have Hs:=hid (Hst.out rfl);clear Hst Hsp;go_wp2_with fail
    go_round
    case rel=>exact⟨q,rfl,by omega,Hs.out⟩
    case measure=>simp[qj2]
   ·have t1:((x.toNat:Int)==32)=false:=by
     rw[zls];intro e;apply h32;rw[<-UInt8.toNat_inj];show x.toNat=32;omega
    have hby:=qjx Htr.out (Hsp.out h32);have HR2:=hid (HR.out.pre (show q+1<=n by omega));have Hnm:=hid (qx8 hby);clear Hst Hsp h32 hcq
    go_wp2_with (first
     |(refine qay _ _ _ _ _ _ HR2.out rfl (.tmp 38) rfl rfl ?_;rw[Hnm.out])
     |(go_at_call 131;refine (Hn.out _).mono ?_;rintro e w2 ⟨rfl,m2,hw2⟩;rw[h6];have hh0:=(qde hw2).1;have hh1:=(qde hw2).2.1;have hz2:=(qde hw2).2.2.1;have hbW:=(qde hw2).2.2.2;have kd:=fun j=>zlc w2 (w.heap.size+1) j _ 155 (0,0) hh1;have kn:w2.cell? ⟨w.heap.size+1,0,none⟩=some (.string (nm l)):=kd 0;have HH:=hid (And.intro hh0 (And.intro hh1 (And.intro hz2 hbW)));clear hw2 kd hh0 hh1 hbW)
     |(at_make;refine qxa rfl _ _ _ rfl _ _ rfl rfl _ (mk5 _) ?_))
    have rs:RS w l 0 (w2.alloc (.cells #[.bool false,.bool false,.bool false,.bool false,.bool false] 4)):=by
     obtain⟨g0,g1,g2,g3⟩:=HH.out;refine⟨?_,?_,?_,g3.alloc (by omega) _⟩
     ·rw[zlz _ _ _ (by omega)];exact g0
     ·rw[zlz _ _ _ (by omega)];exact g1
     ·rw[<-g2];exact zld w2 _
    clear kn HR2 Hnm;have hq0:=rs.read HR0.out h (show 0<5 by omega);have hz:=rs.size;refine (qgd (qa5 (nm l)) 0 _ _ (c-16) _ _ hq0 (by omega)).mono ?_;rintro e w3 ⟨rfl,hb3⟩;replace rs:=rs.call hb3;have Rs:=hid (rs.stores (show 0<5 by omega));have kx:w3.cell? ⟨w.heap.size+1,1,none⟩=some (.int .i64 0):=zlc w3 (w.heap.size+1) 1 _ 155 (0,0) rs.hdr;have ko:w3.cell? ⟨w.heap.size+2,0,none⟩=some (.bool false):=zlc w3 (w.heap.size+2) 0 _ 4 (0,0) rs.oks;have fx:=qcj rs.hdr;have fo:=qcj rs.oks;clear rs hb3 hq0 hz;go_wp2_with fail
    have rs:=Rs.out;clear Rs kx ko fx fo;have hq1:=rs.read HR0.out h (show 1<5 by omega);have hz:=rs.size;refine (qgd (qa5 (nm l)) 1 _ _ (c-28) _ _ hq1 (by omega)).mono ?_;rintro e w4 ⟨rfl,hb4⟩;replace rs:=rs.call hb4;have Rs:=hid (rs.stores (show 1<5 by omega));have kx:w4.cell? ⟨w.heap.size+1,2,none⟩=some (.int .i64 0):=zlc w4 (w.heap.size+1) 2 _ 155 (0,0) rs.hdr;have ko:w4.cell? ⟨w.heap.size+2,1,none⟩=some (.bool false):=zlc w4 (w.heap.size+2) 1 _ 4 (0,0) rs.oks;have fx:=qcj rs.hdr;have fo:=qcj rs.oks;clear rs hb4 hq1 hz;go_wp2_with fail
    have rs:=Rs.out;clear Rs kx ko fx fo;have hq2:=rs.read HR0.out h (show 2<5 by omega);have hz:=rs.size;refine (qgd (qa5 (nm l)) 2 _ _ (c-34) _ _ hq2 (by omega)).mono ?_;rintro e w5 ⟨rfl,hb5⟩;replace rs:=rs.call hb5;have Rs:=hid (rs.stores (show 2<5 by omega));have kx:w5.cell? ⟨w.heap.size+1,3,none⟩=some (.int .i64 0):=zlc w5 (w.heap.size+1) 3 _ 155 (0,0) rs.hdr;have ko:w5.cell? ⟨w.heap.size+2,2,none⟩=some (.bool false):=zlc w5 (w.heap.size+2) 2 _ 4 (0,0) rs.oks;have fx:=qcj rs.hdr;have fo:=qcj rs.oks;clear rs hb5 hq2 hz;go_wp2_with fail
    have rs:=Rs.out;clear Rs kx ko fx fo;have hq3:=rs.read HR0.out h (show 3<5 by omega);have hz:=rs.size;refine (qgd (qa5 (nm l)) 3 _ _ (c-40) _ _ hq3 (by omega)).mono ?_;rintro e w6 ⟨rfl,hb6⟩;replace rs:=rs.call hb6;have Rs:=hid (rs.stores (show 3<5 by omega));have kx:w6.cell? ⟨w.heap.size+1,4,none⟩=some (.int .i64 0):=zlc w6 (w.heap.size+1) 4 _ 155 (0,0) rs.hdr;have ko:w6.cell? ⟨w.heap.size+2,3,none⟩=some (.bool false):=zlc w6 (w.heap.size+2) 3 _ 4 (0,0) rs.oks;have fx:=qcj rs.hdr;have fo:=qcj rs.oks;clear rs hb6 hq3 hz;go_wp2_with fail
    have rs:=Rs.out;clear Rs kx ko fx fo;have hq4:=rs.read HR0.out h (show 4<5 by omega);have hz:=rs.size;refine (qgd (qa5 (nm l)) 4 _ _ (c-48) _ _ hq4 (by omega)).mono ?_;rintro e w7 ⟨rfl,hb7⟩;replace rs:=rs.call hb7;have Rs:=hid (rs.stores (show 4<5 by omega));have kx:w7.cell? ⟨w.heap.size+1,5,none⟩=some (.int .i64 0):=zlc w7 (w.heap.size+1) 5 _ 155 (0,0) rs.hdr;have ko:w7.cell? ⟨w.heap.size+2,4,none⟩=some (.bool false):=zlc w7 (w.heap.size+2) 4 _ 4 (0,0) rs.oks;have fx:=qcj rs.hdr;have fo:=qcj rs.oks;clear rs hb7 hq4 hz;go_wp2_with fail
    have rs:=Rs.out;clear Rs kx ko fx fo;generalize ((w7.setCell ⟨w.heap.size+1,4+1,none⟩ (.int .i64 (((rdF (qa5 (nm l)) 4 (qcb l 4)).getD 0:Nat):Int))).setCell ⟨w.heap.size+2,4,none⟩ (.bool (rdF (qa5 (nm l)) 4 (qcb l 4)).isSome))=W at rs |-;have kc:=fun j=>zlc W w.heap.size j _ 155 (0,0) rs.res;have kz:=qcj rs.res;have ko:=hid fun j=>zlc W (w.heap.size+2) j _ 4 (0,0) rs.oks;have kh:=hid fun j=>zlc W (w.heap.size+1) j _ 155 (0,0) rs.hdr;have hz:=rs.size;have Rs:=hid rs;clear rs;go_loop [8] (fun i=>∃j:Nat,i=.int .i64 (j:Int)/\j<=5/\Hid (∀p,p<j->okc l 5 p=true)) (fun i=>5-qj2 i)
    case atStart=>exact⟨0,rfl,by omega,hid fun p hp=>by omega⟩
    case round=>
     obtain⟨j,rfl,hj5,hall⟩:=hrel;by_cases hlt:j<5
     ·have hoj:W.cell? ⟨w.heap.size+2,j,none⟩=some (.bool (okc l 5 j)):=by
       rw[ko.out j];have h5:j=0∨j=1∨j=2∨j=3∨j=4:=by omega
       rcases h5 with rfl|rfl|rfl|rfl|rfl<;>rfl
      cases hv:okc l 5 j
      ·rw[hv] at hoj;have Hx:=hid (H3.out (Qcy hlt hv));clear hv;go_wp2_with fail
       have hl:=qii _ _ _ (six W w.heap.size _ 155 Rs.out.res rfl (.string ⟨#[]⟩) (.int .i64 0) (.int .i64 0) (.int .i64 0) (.int .i64 0) (.int .i64 0)) rfl;exact zlf (v:=.tuple #[.agg #[.string ⟨#[]⟩,.int .i64 0,.int .i64 0,.int .i64 0,.int .i64 0,.int .i64 0],.int .i64 3]) (by simp[results,results86,asAddr,hl]) rfl (Hx.out _ (qba Rs.out.bel zjn _ _ _ _ _ _))
      ·rw[hv] at hoj
       have Hn:Hid (∀p,p<j+1->okc l 5 p=true):=hid fun p hp=>by
        by_cases e:p=j
        ·rw[e];exact hv
        ·exact hall.out p (by omega)
       clear hv;go_wp2_with fail
       go_round
       case rel=>exact⟨j+1,by go_num,by omega,Hn⟩
       case measure=>simp[qj2];omega
     ·obtain rfl:j=5:=by omega
      have Hx:=hid (H0.out (qyw hall.out 5 (by omega)));have d0:W.cell? ⟨w.heap.size+1,0,none⟩=some (.string (nm l)):=kh.out 0;have d1:W.cell? ⟨w.heap.size+1,1,none⟩=some (.int .i64 (val l 5 0)):=kh.out 1;have d2:W.cell? ⟨w.heap.size+1,2,none⟩=some (.int .i64 (val l 5 1)):=kh.out 2;have d3:W.cell? ⟨w.heap.size+1,3,none⟩=some (.int .i64 (val l 5 2)):=kh.out 3;have d4:W.cell? ⟨w.heap.size+1,4,none⟩=some (.int .i64 (val l 5 3)):=kh.out 4;have d5:W.cell? ⟨w.heap.size+1,5,none⟩=some (.int .i64 (val l 5 4)):=kh.out 5;go_wp2_with fail
      have hl:=qii _ _ _ (six W w.heap.size _ 155 Rs.out.res rfl (.string (nm l)) (.int .i64 (val l 5 0)) (.int .i64 (val l 5 1)) (.int .i64 (val l 5 2)) (.int .i64 (val l 5 3)) (.int .i64 (val l 5 4))) rfl
      exact zlf (v:=.tuple #[.agg #[.string (nm l),.int .i64 (val l 5 0),.int .i64 (val l 5 1),.int .i64 (val l 5 2),.int .i64 (val l 5 3),.int .i64 (val l 5 4)],.int .i64 0]) (by simp[results,results86,asAddr,hl]) rfl
       (Hx.out _ (qba Rs.out.bel zjn _ _ _ _ _ _))
theorem qjc (K:Nat)(A:Option Addr)(n c:Nat)(l:List UInt8)(w:World)(hr:Rd w K A n l)(hK:K<=w.heap.size)(hc:n<=c):
 Calls prog 86 #[.slice A n c] w (qad l w):=by
 by_cases h:n<60
 ·exact qny K A n c l w hr h
 ·obtain⟨b,o,rfl,_⟩:=qig hr (by omega);have h60:60<=n:=by omega
  by_cases hx:(l.drop 58).take 2=[96,10]
  ·cases h6:qaa (nm l)
   ·exact Qd0 K b o n c l w hr hK h60 hc hx h6
   ·exact Qd1 K b o n c l w hr hK h60 hc hx h6
  ·exact Qcz K b o n c l w hr hK h60 hx
end JH
end Go.Proofs.YtlmolmohhpdhdaaGreatDoor
