/-
  symindex: what its functions give, as the laws take it; few
-/
import Derived.Test.YtlmolmohhpdhdaaGreatDoorYSa
import Derived.Test.YtlmolmohhpdhdaaGreatDoorYWp
import Derived.Lib.AppendZeros
set_option maxRecDepth 100000
set_option maxHeartbeats 16000000
set_option linter.all false
namespace Go.Proofs.YtlmolmohhpdhdaaGreatDoor
open Go.RowKit Go.Proofs Tryz
namespace Six
open JB
open JS (Oth)
open JN (qev)
open JR (Mem RdM)
open JW (qbe qd0 RdM0 fewM qzc core lens MOk)
open JA (En qas qei qjt szS qbz qbg RdE)
open Go.Proofs.YtlmolmohhpdhdaaGreatDoor.Frame (MB)
structure Arg8 (w:World) (K:Nat) (A:Option Addr) (n:Nat) (xs:List Mem):Prop where
 g:qev w
 rd:RdM w K A n xs
 hK:K<=w.heap.size
 few:Few xs
 cap:∀x∈xs,x.len<=x.cap/\x.cap<=maxLen
theorem Arg8.on {w w':World}{K n:Nat}{A:Option Addr}{xs:List Mem}(h:Arg8 w K A n xs)(hb:Below w.heap.size w w'):Arg8 w' K A n xs:=
 ⟨h.g.on hb,h.rd.below (hb.mono h.hK),Nat.le_trans h.hK hb.size,h.few,h.cap⟩
theorem Arg8.n20 {w:World}{K n:Nat}{A:Option Addr}{xs:List Mem}(h:Arg8 w K A n xs):n<=200:=by rw[<-h.rd.1];exact h.few.n
def Cmp (xs:List Mem)(w:World)(e:Ending)(w':World):Prop:=
 ∃v,e=.returned (.tuple #[v,.int .i64 (qbe 0 xs).2])/\JB.Own w' w.heap.size v (qfv xs).length (qfv xs)/\Below w.heap.size w w'
theorem Cmp.reads {xs:List Mem}{w w':World}{e:Ending}(h:Cmp xs w e w'):
 ∃A n c,e=.returned (.tuple #[.slice A n c,.int .i64 (qbe 0 xs).2])/\n=(qfv xs).length/\JB.Own w' w.heap.size (.slice A n c) n (qfv xs)/\JB.Rd w' w'.heap.size A n (qfv xs)/\n<=c/\c<=maxLen/\Below w.heap.size w w':=by
 obtain⟨v,rfl,ho,hb⟩:=h;obtain⟨A,c,rfl,hr,hnc,hc⟩:=ho.reads;exact⟨A,_,c,rfl,rfl,ho,hr,hnc,hc,hb⟩
theorem RComp.reads {xs:List Mem}{w w':World}{e:Ending}(h:RComp xs w e w'):
 ∃A n c A1 n1 c1 A2 n2 c2,e=.returned (.tuple #[.slice A n c,.slice A1 n1 c1,.slice A2 n2 c2,.int .i64 (qbe 0 xs).2])/\n=(qfv xs).length/\JB.Rd w' w'.heap.size A n (qfv xs)/\RdE w' w'.heap.size A1 n1 (qzg xs)/\JC.Rd w' w'.heap.size A2 n2 1 (qd0 (Qcj xs))/\Below w.heap.size w w':=by
 obtain⟨v,A1,n1,c1,A2,n2,c2,rfl,ho,h1,h2,hb⟩:=h;obtain⟨A,c,rfl,hr,hnc,hc⟩:=ho.reads;obtain⟨_,_,e1,r2,_⟩:=h2.reads;injection e1 with e11 _ e13;subst e11 e13;exact⟨A,_,c,A1,n1,c1,A2,n2,c2,rfl,rfl,hr,JA.qp3 h1,r2,hb⟩
theorem Few.fits {xs:List Mem}(h0:(qbe 0 xs).2=0):∀x∈xs,JW.qca x=0:=(JW.qgh 0 xs).1 h0
theorem Few.clen {xs:List Mem}(h:Few xs):(qfv xs).length<=99000:=by
 unfold qfv;split
 ·rename_i h0
  exact JW.arch_len (Few.fits h0) h.n h.ok h.len (by rw[qe6];have:=h.names;omega) h.all
 ·simp
/-! ### the same members elsewhere -/
theorem qjj:∀xs:List Mem,qa9 (xs.map core)=qa9 xs
 |[]=>rfl
 |x::r=>by rw[List.map_cons,qdc,qdc,qjj r];rfl
theorem qrq:∀(os:List Nat)(xs:List Mem),qc4 os (xs.map core)=qc4 os xs
 |[],xs=>by simp[qc4]
 |o::os,[]=>rfl
 |o::os,x::r=>by rw[List.map_cons,qc4,qc4,qrq os r];rfl
theorem qvd (xs:List Mem):qhy (xs.map core)=qhy xs:=by
 unfold qhy hmF;rw[qjj,JW.Qef,JW.Qeg]
theorem qzh (xs:List Mem):idx (xs.map core)=idx xs:=by
 unfold idx;rw[qvd,qrq]
theorem qkf (xs:List Mem):qfv (xs.map core)=qfv xs:=by
 unfold qfv hmF;rw[JW.qed,qjj,qzh,JW.Qee]
theorem qve (xs:List Mem):qzg (xs.map core)=qzg xs:=by
 unfold qzg;rw[JW.qed,qzh]
theorem qvf (xs:List Mem):Qcj (xs.map core)=Qcj xs:=by
 unfold Qcj;rw[JW.qed,qvd]
theorem qi1 (xs:List Mem):lens (xs.map core)=lens xs:=by
 unfold lens;rw[List.map_map];rfl
theorem Few.core {xs ys:List Mem}(h:Few xs)(he:ys.map core=xs.map core):Few ys:=by
 refine⟨by rw[JW.qkc he];exact h.n,JW.qkd he h.ok,fun y hy=>?_,by rw[<-qi1,he,qi1];exact h.all⟩;have h1:JW.core y∈xs.map JW.core:=by rw[<-he];exact List.mem_map_of_mem hy
 obtain⟨x,hx,e⟩:=List.mem_map.1 h1;have h2:=h.len x hx;have e1:y.data=x.data:=(congrArg Mem.data e).symm;have e2:y.len=x.len:=(congrArg Mem.len e).symm;rw[e1,e2];exact h2
theorem qzi {xs ys:List Mem}(he:ys.map core=xs.map core):qfv ys=qfv xs/\qzg ys=qzg xs/\Qcj ys=Qcj xs/\qbe 0 ys=qbe 0 xs:=by
 refine⟨by rw[<-qkf,he,qkf],by rw[<-qve,he,qve],by rw[<-qvf,he,qvf],?_⟩;rw[<-JW.qed 0 ys,he,JW.qed]
end Six
namespace Six
open JB
theorem qpt (x:Obj.Sy)(w:World):
 Calls prog 208 #[x.val] w fun e w'=>e=.returned (.tuple #[.string x.name,.bool (qn3 x)])/\Below w.heap.size w w':=by
 obtain⟨s,b,z,a⟩:=x;have hb0:=zjB w (.cells #[.string s,.int .i64 b,.int .i64 z,.int .i64 a] 174);have hrow:=zld w (.cells #[.string s,.int .i64 b,.int .i64 z,.int .i64 a] 174);show Calls prog 208 #[.agg #[.string s,.int .i64 b,.int .i64 z,.int .i64 a]] w fun e w'=>e=.returned (.tuple #[.string s,.bool (qn3 ⟨s,b,z,a⟩)])/\Below w.heap.size w w'
 have HD:Hid (qn3 ⟨s,b,z,a⟩=(b==1||b==2)):=hid rfl;generalize qn3 ⟨s,b,z,a⟩=r at *;go_enter func208,ntmps208;go_upto_region 1 with fail
 generalize w.alloc (.cells #[.string s,.int .i64 b,.int .i64 z,.int .i64 a] 174)=w1 at *;generalize hg:w.heap.size=g at hrow hb0 |-;have Hg:=hid hg;clear hg;have zzd:=fun k=>zjc g k hrow;clear hrow;cases h1:(b==1)
 ·cases h2:(b==2);all_goals have HR:=hid HD.out
  all_goals rw[h1,h2] at HR
  all_goals clear HD
  all_goals go_quiet (fail)
  all_goals go_wp2_with fail
  all_goals go_ret2
  all_goals exact⟨by rw[HR.out];rfl,by rw[Hg.out];exact hb0.trans (JD.qa0 _ _)⟩
 ·have HR:=hid HD.out;rw[h1] at HR;clear HD;go_quiet (fail)
  go_wp2_with fail
  go_ret2
  exact⟨by rw[HR.out];rfl,by rw[Hg.out];exact hb0.trans (JD.qa0 _ _)⟩
theorem Qbn (K:Nat)(A:Option Addr)(n c:Nat)(xs:List Obj.Sy)(w:World)(h:Obj.RdS w K A n xs)(hK:K<=w.heap.size)(hn:n<=100000):
 Calls prog 207 #[.slice A n c,.func (.func 208) #[] #[]] w fun e w'=>∃A2 n2 c2,e=.returned (.slice A2 n2 c2)/\JS.Own w' w.heap.size (.slice A2 n2 c2) n2 (qce xs)/\Below w.heap.size w w':=by
 have Hl:=hid h.1;go_enter func207,ntmps207;go_wp2_with fail
 go_loopw [5,12] (fun v i W=>∃(k j:Nat)(A2:Option Addr)(c2:Nat),i=.int .i64 (k:Int)/\k<=n/\v=.slice A2 j c2/\j<=k/\JS.Own W w.heap.size (.slice A2 j c2) j (qce (xs.take k))/\Below w.heap.size w W) (fun _ i _=>n-(intOf i).toNat)
 case atStart=>exact⟨0,0,none,0,rfl,by omega,rfl,by omega,JS.Own.nil _ _,Below.refl _ _⟩
 case round=>
  obtain⟨k,j,A2,c2,rfl,hk,rfl,hjk,hO,hb⟩:=hrel;by_cases hlt:k<n
  ·have hkl:k<xs.length:=by have:=Hl.out;omega
   have hki:(k:Int)<(n:Int):=by omega
   obtain⟨⟨b,o,rfl,hbK,hcell⟩,_⟩:=(h.below (hb.mono hK)).2 k hkl;have HT:=hid (qrj hkl);generalize xs[k]=x at *;have Hf:=hid fun W=>qpt x W;have Hd:Hid (qn3 x=true->qce (xs.take (k+1))=qce (xs.take k)++[x.name]):=hid fun q=>by rw[HT.out,qes q]
   have Hn:Hid (qn3 x=false->qce (xs.take (k+1))=qce (xs.take k)):=hid fun q=>by rw[HT.out,qhx q,zlJ]
   generalize qn3 x=dx at *;obtain⟨x0,x1,x2,x3⟩:=x;obtain⟨p0,p1,p2,p3⟩:=hcell;simp only[Obj.Sy.val] at *;have hba:=hb.alloc hb.size (.cells #[.string x0,.int .i64 x1,.int .i64 x2,.int .i64 x3] 174);have hOa:=hO.alloc (.cells #[.string x0,.int .i64 x1,.int .i64 x2,.int .i64 x3] 174);clear hO hb HT;go_wp2_with fail
   refine (Hf.out _).mono ?_;rintro e w2 ⟨rfl,hb2⟩;have hO2:=hOa.below hb2;have hb02:=hba.trans (hb2.mono hba.size);have hbs:=hb02.size;clear hba hb2 p0 p1 p2 p3 hOa;cases dx
   ·have HR:=hid (Hn.out rfl);go_wp2_with fail
    go_roundw
    ·exact⟨k+1,j,A2,c2,by go_num,by omega,rfl,by omega,by rw[HR.out];exact hO2,hb02⟩
    ·simp[intOf];omega
   ·have HR:=hid (Hd.out rfl);go_wp2_with (at_builtin;go_must (refine JS.qa4 w2 w.heap.size (.slice A2 j c2) j _ x0 hO2 hbs (by omega) rfl (.tmp 23) (.tmp 25) rfl rfl rfl ?_);intro v4 w4 ho4 hb4 _ _;obtain⟨A4,c4,rfl,_⟩:=ho4.reads)
    have ho4':JS.Own w4 w.heap.size (.slice A4 (j+1) c4) (j+1) (qce (xs.take (k+1))):=by rw[HR.out];exact ho4
    have hb04:=hb02.trans hb4;clear ho4 hb4 hO2 hb02;go_roundw
    ·exact⟨k+1,j+1,A4,c4,by go_num,by omega,rfl,by omega,ho4',hb04⟩
    ·simp[intOf];omega
  ·obtain rfl:k=n:=by omega
   have hki:¬(k:Int)<(k:Int):=by omega
   have hT:xs.take k=xs:=zlj (by have:=Hl.out;omega);rw[hT] at hO;clear hT;go_wp2_with fail
   go_ret
   exact⟨A2,j,c2,rfl,hO,hb⟩
theorem Qem (K:Nat)(A:Option Addr)(n c:Nat)(l:List UInt8)(w:World)(hr:JB.Rd w K A n l)(hK:K<=w.heap.size)(hnc:n<=c)(hc:c<=maxLen)(hn:n<=100000):
 Calls prog 167 #[.slice A n c] w (Qbj l w):=by
 go_enter func167,ntmps167;go_wp2_with fail
 refine (Obj.qdz K A n c l w hr hK hnc hc (by omega)).mono ?_;rintro e w1 hD;obtain⟨A1,n1,c1,B1,m1,d1,rfl,hs1,_,hnc1,hn1,_,_,_,hb1⟩:=hD.reads;have hrow:=zld w1 (.cells #[.slice A1 n1 c1,.slice B1 m1 d1] 170);have hbA:=zjB w1 (.cells #[.slice A1 n1 c1,.slice B1 m1 d1] 170);have q0:=zjc w1.heap.size 0 hrow;have hs2:=hs1.below hbA;have hb2:=hb1.trans (hbA.mono hb1.size);have hbz:=hbA.size;have HC:=hid (Qbn w1.heap.size A1 n1 c1 (Obj.qdm l).2.1 _ hs2 hbz (by omega));generalize (Obj.qdm l).1=ze at *;clear hD hs1 hbA hr hb1 hrow hs2;go_wp2_with fail
 refine HC.out.mono ?_;rintro e w3 ⟨A2,n2,c2,rfl,ho,hb3⟩;have hbs:=hb2.size;go_wp2_with fail
 go_ret
 exact⟨A2,n2,c2,rfl,ho.more hbs,hb2.trans (hb3.mono hbs)⟩
open JS (Oth)
theorem kSS:JC.Qar 200 26 1 24 (.slice none 0 0):=⟨by kernel_rfl,by kernel_rfl,by kernel_rfl,by decide⟩
def RdL (w:World)(K:Nat)(A:Option Addr)(n:Nat)(xs:List (List ByteArray)):Prop:=
 xs.length=n/\∀k (h:k<xs.length),∃(b o:Nat)(A':Option Addr)(c':Nat),A=some ⟨b,o,none⟩/\b<K/\w.cell? ⟨b,o+k,none⟩=some (.slice A' xs[k].length c')/\JS.Rd w K A' xs[k].length xs[k]/\xs[k].length<=c'/\c'<=maxLen
theorem RdL.below {w w':World}{K n:Nat}{A:Option Addr}{xs:List (List ByteArray)}(h:RdL w K A n xs)(hb:Below K w w'):RdL w' K A n xs:=
 ⟨h.1,fun k hk=>by
  obtain⟨b,o,A',c',e,hl,hc,hr,h1,h2⟩:=h.2 k hk;exact⟨b,o,A',c',e,hl,by rw[hb.cell (p:=⟨b,o+k,none⟩) hl];exact hc,hr.below hb,h1,h2⟩⟩
theorem RdL.more {w:World}{K K' n:Nat}{A:Option Addr}{xs:List (List ByteArray)}(h:RdL w K A n xs)(hK:K<=K'):RdL w K' A n xs:=
 ⟨h.1,fun k hk=>by
  obtain⟨b,o,A',c',e,hl,hc,hr,h1,h2⟩:=h.2 k hk;exact⟨b,o,A',c',e,by omega,hc,hr.more hK,h1,h2⟩⟩
def qu0 (w:World)(K:Nat)(v:Value)(n:Nat)(xs:List (List ByteArray)):Prop:=
 ∃vs:List Value,JC.Own 26 1 w K v n vs/\vs.length=xs.length/\∀k (h:k<xs.length) (h':k<vs.length),JS.Own w K vs[k] xs[k].length xs[k]
theorem qu0.of {w:World}{K:Nat}{v:Value}(h:JC.Own 26 1 w K v 0 []):qu0 w K v 0 []:=⟨[],h,rfl,fun k hk=>absurd hk (by simp)⟩
theorem qu0.len {w:World}{K n:Nat}{v:Value}{xs:List (List ByteArray)}(h:qu0 w K v n xs):xs.length=n:=by
 obtain⟨vs,ho,hl,_⟩:=h;have:=ho.1;omega
theorem qu0.below {w w':World}{K n:Nat}{v:Value}{xs:List (List ByteArray)}(h:qu0 w K v n xs)(hb:Below w.heap.size w w'):qu0 w' K v n xs:=by
 obtain⟨vs,ho,hl,hs⟩:=h;exact⟨vs,ho.below hb,hl,fun k h1 h2=>(hs k h1 h2).below hb⟩
theorem qu0.reads {w:World}{K n:Nat}{v:Value}{xs:List (List ByteArray)}(h:qu0 w K v n xs):∃A c,v=.slice A n c/\RdL w w.heap.size A n xs/\n<=c/\c<=maxLen:=by
 have hn:=h.len;obtain⟨vs,ho,hl,hs⟩:=h;obtain⟨A,c,rfl,hr,hnc,hc⟩:=ho.reads;refine⟨A,c,rfl,⟨hn,fun k hk=>?_⟩,hnc,hc⟩;have hkv:k<vs.length:=by omega
 obtain⟨b,o,e,hb,hcell⟩:=hr.2 k hkv;obtain⟨A',c',e',hr',h1,h2⟩:=(hs k hk hkv).reads;exact⟨b,o,A',c',e,hb,by rw[hcell,e'],hr',h1,h2⟩
theorem qu0.push {w w':World}{K n:Nat}{v' u:Value}{xs:List (List ByteArray)}{x:List ByteArray}{vs:List Value}
 (hl:vs.length=xs.length)(hs:∀k (h:k<xs.length) (h':k<vs.length),JS.Own w K vs[k] xs[k].length xs[k])(hx:JS.Own w K u x.length x)
 (ho:JC.Own 26 1 w' K v' (n+1) (vs++[u]))(hoth:Oth 26 w w'):qu0 w' K v' (n+1) (xs++[x]):=by
 refine⟨vs++[u],ho,by simp[hl],fun k h1 h2=>?_⟩;have hne:(9:Nat)≠26:=by decide
 by_cases hk:k<xs.length
 ·rw[List.getElem_append_left (by omega),List.getElem_append_left hk];exact qbb (hs k hk (by omega)) hoth hne
 ·have e1:k=xs.length:=by simp at h1;omega
  subst e1;have e2:(vs++[u])[xs.length]'h2=u:=by rw[List.getElem_append_right (by omega)];simp[hl]
  have e3:(xs++[x])[xs.length]'h1=x:=by rw[List.getElem_append_right (by omega)];simp
  rw[e2,e3];exact qbb hx hoth hne
theorem grow_nil (n:Nat)(w:World)(hn:n<=1000000):
 Calls prog 168 #[.slice none 0 0,.int .i64 (n:Int)] w fun e w'=>∃A c,e=.returned (.slice A 0 c)/\JS.Own w' w.heap.size (.slice A 0 c) 0 []/\Below w.heap.size w w':=by
 rcases Nat.eq_zero_or_pos n with rfl|h0
 ·go_enter func168,ntmps168;go_wp2_with fail
  go_ret
  exact⟨none,0,rfl,JS.Own.nil _ _,Below.refl _ _⟩
 ·obtain⟨i,hi,hz0,hz1,hz2⟩:=info_parts JS.qjd;have hgc:n<=grownCap w n 0 9:=grownCap_ge _ _ _ _;have hgm:grownCap w n 0 9<=maxLen:=grownCap_le_maxLen _ _ _ _ (by unfold maxLen;omega)
  have hrz:∀ty,(Builtin.append_ #[26,3] ty #[.slice none 0 0,.int .i64 (n:Int)]).run prog w=
   .ok (.slice (some ⟨w.heap.size,0,none⟩) n (grownCap w n 0 9)) (w.drew.alloc (.cells (Builtin.zeroCells (Value.string ⟨#[]⟩).cells n++Builtin.zeroCells (Value.string ⟨#[]⟩).cells (grownCap w n 0 9-n)) 9)):=fun ty=>
   Lib.run_append_nil_zeros w 26 3 ty 9 i _ .i64 .i64 underlying26 underlying3 hi hz0 n h0 (by rw[hz1];decide) (by omega) (by rw[hz2];omega)
  have hb:=(Below.refl w.heap.size w).drew.alloc zjn (.cells (Builtin.zeroCells (Value.string ⟨#[]⟩).cells n++Builtin.zeroCells (Value.string ⟨#[]⟩).cells (grownCap w n 0 9-n)) 9)
  have hO:JS.Own (w.drew.alloc (.cells (Builtin.zeroCells (Value.string ⟨#[]⟩).cells n++Builtin.zeroCells (Value.string ⟨#[]⟩).cells (grownCap w n 0 9-n)) 9)) w.heap.size (.slice (some ⟨w.heap.size,0,none⟩) 0 (grownCap w n 0 9)) 0 []:=
   ⟨rfl,.inr ⟨w.heap.size,_,_,(0,0),rfl,Nat.le_refl _,zld w.drew _,Nat.zero_le _,hgm,by rw[Array.size_append,size_zeroCells,size_zeroCells];show n * 1+(_-n) * 1=_;omega,by simp[JS.enc],fun j _ hj=>by simp at hj⟩⟩
  generalize grownCap w n 0 9=G at *;generalize w.drew.alloc (.cells (Builtin.zeroCells (Value.string ⟨#[]⟩).cells n++Builtin.zeroCells (Value.string ⟨#[]⟩).cells (G-n)) 9)=w1 at *;have h1:¬(n:Int)<0:=by omega
  have h2:(0:Int)<(n:Int):=by omega
  unfold maxLen at hgm;clear hi hz0 hz1 hz2;go_enter func168,ntmps168;go_wp2_with (at_builtin;refine Lib.wpList_append_run _ rfl _ _ _ _ rfl _ _ rfl rfl _ _ (hrz _) ?_)
  all_goals (go_ret;exact⟨_,_,rfl,hO,hb⟩)
theorem qvg {xs:List (List ByteArray)}{k:Nat}(hk:k<xs.length):(xs.take (k+1)).flatten=(xs.take k).flatten++xs[k]:=by
 rw[zlg hk,List.flatten_append];simp
theorem qxu (xs:List (List ByteArray))(k:Nat):(xs.take k).flatten.length<=xs.flatten.length:=by
 conv=>rhs;rw[<-List.take_append_drop k xs,List.flatten_append,zlb]
 omega
theorem qis (K:Nat)(A:Option Addr)(n c:Nat)(xs:List (List ByteArray))(w:World)(h:RdL w K A n xs)(hK:K<=w.heap.size)(hn:n<=200)(hall:xs.flatten.length<=3000):
 Calls prog 123 #[.slice A n c] w fun e w'=>∃A2 n2 c2,e=.returned (.slice A2 n2 c2)/\JS.Own w' w.heap.size (.slice A2 n2 c2) n2 xs.flatten/\Below w.heap.size w w':=by
 have Hl:=hid h.1;have HB:=hid fun k=>Nat.le_trans (qxu xs k) hall;go_enter func123,ntmps123;go_wp2_with fail
 go_loopw [3,11] (fun s i W=>∃k:Nat,i=.int .i64 (k:Int)/\k<=n/\s=.int .i64 (((xs.take k).flatten.length:Nat):Int)/\Below w.heap.size w W) (fun _ i _=>n-(intOf i).toNat)
 case atStart=>exact⟨0,rfl,by omega,by simp,Below.refl _ _⟩
 case round=>
  obtain⟨k,rfl,hk,rfl,hb⟩:=hrel;by_cases hlt:k<n
  ·have hkl:k<xs.length:=by have:=Hl.out;omega
   have hki:(k:Int)<(n:Int):=by omega
   obtain⟨b,o,A',c',rfl,hbK,hcell,_,_,_⟩:=(h.below (hb.mono hK)).2 k hkl;have HT:Hid ((xs.take (k+1)).flatten.length=(xs.take k).flatten.length+xs[k].length):=hid (by rw[qvg hkl,zlb]);have hb1:=HB.out (k+1)
   have hq:IntKind.i64.wrap (((xs.take k).flatten.length:Int)+(xs[k].length:Int))=(((xs.take (k+1)).flatten.length:Nat):Int):=by
    have:=HT.out;rw[IntKind.wrap_i64];omega
   have hnn:¬(((xs.take (k+1)).flatten.length:Nat):Int)<0:=by omega
   generalize (xs.take k).flatten.length=f0 at *;obtain⟨f1,hf1⟩:∃f1,(xs.take (k+1)).flatten.length=f1:=⟨_,rfl⟩;have HF:=hid hf1;rw[hf1] at hq hnn;generalize xs[k].length=m at *;clear hf1 hb1 HT;go_wp2_with fail
   go_roundw
   ·exact⟨k+1,by go_num,by omega,by rw[HF.out],hb⟩
   ·simp[intOf];omega
  ·obtain rfl:k=n:=by omega
   have hki:¬(k:Int)<(k:Int):=by omega
   have hT:xs.take k=xs:=zlj (by have:=Hl.out;omega);rw[hT];have hKw:=hb.size;obtain⟨F,hF⟩:∃F,xs.flatten.length=F:=⟨_,rfl⟩;have hF2:F<=1000000:=by omega
   rw[hF];clear hT hF;go_wp2_with fail
   refine (grow_nil F wr hF2).mono ?_;rintro e w1 ⟨A1,c1,rfl,ho1,hb1⟩;have hO1:=ho1.more (K':=w.heap.size) hKw;have hb01:=hb.trans (hb1.mono hKw);have hki:True:=trivial;clear ho1 hb1 hb;go_wp2_with fail
   go_loopw [6,27] (fun v i W=>∃(q j:Nat)(A2:Option Addr)(c2:Nat),i=.int .i64 (q:Int)/\q<=k/\v=.slice A2 j c2/\JS.Own W w.heap.size (.slice A2 j c2) j (xs.take q).flatten/\Below w.heap.size w W) (fun _ i _=>k-(intOf i).toNat)
   case atStart=>exact⟨0,0,A1,c1,rfl,by omega,rfl,by simpa using hO1,hb01⟩
   case round=>
    obtain⟨q,j,A2,c2,rfl,hq,rfl,hO,hb⟩:=hrel;by_cases hlt:q<k
    ·have hql:q<xs.length:=by have:=Hl.out;omega
     have hqi:(q:Int)<(k:Int):=by omega
     obtain⟨b,o,A',c',rfl,hbK,hcell,hrd,_,_⟩:=(h.below (hb.mono hK)).2 q hql;have HT:=hid (qvg hql);have Hj:=hid hO.1
     have hjb:j+xs[q].length<=3000:=by
      have h1:=HB.out (q+1);rw[HT.out,zlb] at h1;have:=Hj.out;omega
     generalize xs[q]=x at *;obtain⟨m,hm⟩:∃m,x.length=m:=⟨_,rfl⟩;rw[hm] at hcell hrd hjb;have hbs:=hb.size;clear hm;go_wp2_with (at_builtin;go_must (refine JS.qah _ w.heap.size (.slice A2 j c2) j _ hO hbs A' m c' K x hrd (by omega) rfl (.tmp 31) (.tmp 32) rfl rfl rfl ?_);intro v4 w4 ho4 hb4 _ _;obtain⟨A4,c4,rfl,_⟩:=ho4.reads)
     rw[<-HT.out] at ho4;have hb04:=hb.trans hb4;clear hb4 hO hb hcell hrd;go_roundw
     ·exact⟨q+1,j+m,A4,c4,by go_num,by omega,rfl,ho4,hb04⟩
     ·simp[intOf];omega
    ·obtain rfl:q=k:=by omega
     have hqi:¬(q:Int)<(q:Int):=by omega
     have hT:xs.take q=xs:=zlj (by have:=Hl.out;omega);rw[hT] at hO;clear hT;go_wp2_with fail
     go_ret
     exact⟨A2,j,c2,rfl,hO,hb⟩
open JR (Mem RdM)
open JW (qbe qd0 MOk)
open JA (En qas qei qjt szS qbz qbg)
def Qbp (xs:List Mem):List (List ByteArray):=xs.map fun x=>qfu x.data
theorem qvh (xs:List Mem):(Qbp xs).flatten=qa9 xs:=rfl
theorem qnf (xs:List Mem):(Qbp xs).length=xs.length:=by simp[Qbp]
theorem defL_at {xs:List Mem}{k:Nat}(hk:k<(Qbp xs).length):(Qbp xs)[k]=qfu (xs[k]'(by rw[qnf] at hk;exact hk)).data:=by simp[Qbp]
theorem Qen {xs:List Mem}{k:Nat}(hk:k<xs.length):Qbp (xs.take (k+1))=Qbp (xs.take k)++[qfu xs[k].data]:=by
 rw[zlg hk];unfold Qbp;rw[List.map_append];rfl
theorem qvi {ops:Array Oper}{rest:List Oper}{o:Oper}{a:Act}{Q:Exit->Act->World->Prop}(w:World)(c:Nat)(hc:c<=1000000)(K:Nat)(hK:K<=w.heap.size)(hgd:o.guard=none)(l x:Operand)
 (ho:o.op=Op.makeSlice 200 l x)(kl kc:IntKind)(hl:a.eval l=.int kl 0)(hx:a.eval x=.int kc (c:Int))
 (h:∀v' w',JC.Own 26 1 w' K v' 0 []->Below w.heap.size w w'->wpList prog ops Q rest (a.put o.dst v') w'):
 wpList prog ops Q (o::rest) a w:=by
 obtain⟨i,hi,hz0,hz1,hz2⟩:=info_parts kSS.info;refine wpList_make_own w hgd l x 200 ho K 26 i (.slice none 0 0) 1 underlying200 hi hz0 hz1 kl kc (c:Int) c hl hx rfl (by rw[hz2];omega) (by unfold maxLen;omega) hK (fun w' h1 h2=>?_);refine h _ w' ⟨rfl,?_⟩ ((Below.refl _ _).grown h2 zjn (fun k hk=>by cases hk));rcases h1.2 with h|⟨g,cap,cur,hv,hg,hh,hn,hm,hs,ht⟩
 ·exact .inl h
 ·exact .inr ⟨g,cap,cur,(0,0),hv,hg,hh,hn,hm,by omega,by simp,fun j _ hj=>by simp at hj⟩
theorem qta (K:Nat)(A:Option Addr)(n c:Nat)(xs:List Mem)(w:World)(h:RdM w K A n xs)(hK:K<=w.heap.size)(hn:n<=200)(hok:∀x∈xs,x.len<=100000)(hcap:∀x∈xs,x.len<=x.cap/\x.cap<=maxLen):
 Calls prog 122 #[.slice A n c] w fun e w'=>∃A2 c2,e=.returned (.slice A2 n c2)/\qu0 w' w.heap.size (.slice A2 n c2) n (Qbp xs)/\Below w.heap.size w w':=by
 have Hl:=hid h.1;go_enter func122,ntmps122;go_wp2_with (at_make;refine qvi w n (by omega) w.heap.size zjn rfl _ _ rfl _ _ rfl rfl ?_;intro v0 w0 ho0 hb0;obtain⟨A0,c0,rfl,_⟩:=ho0.reads)
 have HO0:=hid (qu0.of ho0);clear ho0;go_loopw [3,11] (fun v i W=>∃(k:Nat)(A1:Option Addr)(c1:Nat),v=.slice A1 k c1/\i=.int .i64 (k:Int)/\k<=n/\Hid (qu0 W w.heap.size (.slice A1 k c1) k (Qbp (xs.take k)))/\Below w.heap.size w W) (fun _ i _=>n-(intOf i).toNat)
 case atStart=>exact⟨0,A0,c0,rfl,rfl,by omega,HO0,hb0⟩
 case round=>
  obtain⟨k,A1,c1,rfl,rfl,hk,hO,hb⟩:=hrel;by_cases hlt:k<n
  ·have hkl:k<xs.length:=by have:=Hl.out;omega
   have hki:(k:Int)<(n:Int):=by omega
   obtain⟨⟨b,o,rfl,hbK,hcell⟩,hrd,_⟩:=(h.below (hb.mono hK)).2 k hkl;have hx1:=hok _ (zlq hkl);obtain⟨hx2,hx3⟩:=hcap _ (zlq hkl);have HT:=hid (Qen hkl);have hb1:=hb.alloc hb.size (.cells #[.string xs[k].name,.int .i64 xs[k].time,.int .i64 xs[k].uid,.int .i64 xs[k].gid,.int .i64 xs[k].mode,.slice xs[k].ptr xs[k].len xs[k].cap] 46);have hba:=zjB wr (.cells #[.string xs[k].name,.int .i64 xs[k].time,.int .i64 xs[k].uid,.int .i64 xs[k].gid,.int .i64 xs[k].mode,.slice xs[k].ptr xs[k].len xs[k].cap] 46);have hrow:=zld wr (.cells #[.string xs[k].name,.int .i64 xs[k].time,.int .i64 xs[k].uid,.int .i64 xs[k].gid,.int .i64 xs[k].mode,.slice xs[k].ptr xs[k].len xs[k].cap] 46);have HO1:=hid (hO.out.below hba);have hrd1:=(hrd.below ((hba.mono (Nat.le_trans hK hb.size))));generalize xs[k]=x at *;obtain⟨x0,x1,x2,x3,x4,x5,x6,x7,x8⟩:=x;obtain⟨p0,p1,p2,p3,p4,p5⟩:=hcell;simp only at *;clear hO hb hrd hba;go_upto_region 5 with fail
   generalize wr.alloc (.cells #[.string x0,.int .i64 x1,.int .i64 x2,.int .i64 x3,.int .i64 x4,.slice x5 x6 x7] 46)=w1 at *;generalize wr.heap.size=g at *;have d5:=zjc g 5 hrow;have hbs:=hb1.size;have HD:=hid (Qem K x5 x6 x7 x8 w1 hrd1 (Nat.le_trans hK hbs) hx2 hx3 hx1);clear p0 p1 p2 p3 p4 p5 hrow hrd1 hx1 hx2 hx3;go_wp2_with fail
   refine HD.out.mono ?_;rintro e w2 hP;obtain⟨A2,n2,c2,rfl,hn2,o2,_,_,_,hb2⟩:=hP.reads;have HO2:=hid (HO1.out.below hb2);have o2':JS.Own w2 w.heap.size (.slice A2 n2 c2) (qfu x8).length (qfu x8):=by rw[<-hn2];exact o2.more hbs
   have hb02:=hb1.trans (hb2.mono hbs);have hbs2:=hb02.size;obtain⟨vs,hcel,hlen,hel⟩:=HO2.out;have Hlen:=hid hlen;have Hel:=hid hel;have Ho2:=hid o2';clear hP hn2 o2 hb2 hb1 HO1 hlen hel o2' d5 HO2;go_wp2_with (at_builtin;go_must (refine JC.qa4 kSS w2 w.heap.size (.slice A1 k c1) k _ hcel hbs2 1 1 #[.slice A2 n2 c2] (0,0) rfl (by simp[Value.oneCell']) (by omega) (by omega) rfl (.tmp 15) (.tmp 19) rfl rfl rfl ?_);intro v4 w4 ho4 hb4 hot4 _;obtain⟨A4,c4,rfl,_⟩:=ho4.reads)
   have HO4:=hid (qu0.push Hlen.out Hel.out Ho2.out ho4 hot4);rw[<-HT.out] at HO4;have hb04:=hb02.trans hb4;clear ho4 hb4 hot4 hcel hb02;go_roundw
   ·exact⟨k+1,A4,c4,rfl,by go_num,by omega,HO4,hb04⟩
   ·simp[intOf];omega
  ·obtain rfl:k=n:=by omega
   have hki:¬(k:Int)<(k:Int):=by omega
   have hT:xs.take k=xs:=zlj (by have:=Hl.out;omega);rw[hT] at hO;clear hT;go_wp2_with fail
   go_ret
   exact⟨A1,c1,rfl,hO.out,hb⟩
theorem qjk (K:Nat)(A:Option Addr)(n c:Nat)(xs:List Mem)(B:Option Addr)(m d:Nat)(os:List Nat)(w:World)(h:RdL w K A n (Qbp xs))(hK:K<=w.heap.size)(ho:JC.Rd w K B m 1 (qd0 os))(hos:os.length=xs.length)(hn:n<=200)(hall:(qa9 xs).length<=3000):
 Calls prog 126 #[.slice A n c,.slice B m d] w fun e w'=>∃A2 n2 c2,e=.returned (.slice A2 n2 c2)/\JC.Own 135 2 w' w.heap.size (.slice A2 n2 c2) n2 (qas (qc4 os xs))/\Below w.heap.size w w':=by
 have Hl:Hid (xs.length=n):=hid (by have:=h.1;rw[qnf] at this;exact this);have Hm:Hid (os.length=m):=hid (by have:=ho.1;simpa [qd0] using this)
 have HB:Hid (∀k,(qa9 (xs.take k)).length<=3000):=hid fun k=>by
  have h2:qa9 xs=qa9 (xs.take k)++qa9 (xs.drop k):=by rw[<-qh0,List.take_append_drop]
  rw[h2,zlb] at hall;omega
 go_enter func126,ntmps126;go_wp2_with fail
 go_loopw [5,12] (fun v i W=>∃(k j:Nat)(A1:Option Addr)(c1:Nat),i=.int .i64 (k:Int)/\k<=n/\v=.slice A1 j c1/\Hid (j=(qa9 (xs.take k)).length)/\JC.Own 135 2 W w.heap.size (.slice A1 j c1) j (qas (qc4 (os.take k) (xs.take k)))/\Below w.heap.size w W) (fun _ i _=>n-(intOf i).toNat)
 case atStart=>exact⟨0,0,none,0,rfl,by omega,rfl,hid (by simp[qa9]),JC.Own.nil _ _ _ _,Below.refl _ _⟩
 case round=>
  obtain⟨k,j,A1,c1,rfl,hk,rfl,Hj,hO,hb⟩:=hrel;by_cases hlt:k<n
  ·have hkl:k<xs.length:=by have:=Hl.out;omega
   have hki:(k:Int)<(n:Int):=by omega
   obtain⟨b,o,A',c',rfl,hbK,hcell0,hrd,_,_⟩:=h.2 k (by rw[qnf];exact hkl);have hcell:wr.cell? ⟨b,o+k,none⟩=_:=((hb.mono hK).cell (p:=⟨b,o+k,none⟩) hbK).trans hcell0;rw[defL_at (by rw[qnf];exact hkl)] at hcell hrd;have hkm:k<m:=by have:=Hl.out;have:=Hm.out;omega
   have hkmi:(k:Int)<(m:Int):=by omega
   have HTn:=hid (qpr hkl);have HTe:=hid (Qbi hos hkl);have HRd:=hid fun (W:World) (hW:Below w.heap.size w W)=>hrd.below (hW.mono hK);obtain⟨bo,oo,rfl,hboK,hoc⟩:=ho.2 k (by simp[qd0];omega);have HOc:=hid fun (W:World) (hW:Below w.heap.size w W)=>(((hW.mono hK).cell (p:=⟨bo,oo+k,none⟩) hboK).trans hoc).trans (show some ((qd0 os)[k]'(by simp[qd0];omega))=some (Value.int .i64 ((os[k]'(by omega):Nat):Int)) by simp[qd0])
   have Hjb:Hid (j+(qfu xs[k].data).length<=3000):=hid (by
    have h1:=HB.out (k+1);rw[HTn.out,zlb] at h1;have:=Hj.out;omega)
   have Hlen:Hid ((qa9 (xs.take (k+1))).length=j+(qfu xs[k].data).length):=hid (by rw[HTn.out,zlb,Hj.out]);clear hrd hcell0 HTn hoc;generalize qfu xs[k].data=ds at *;generalize os[k]'(by omega)=op at *;obtain⟨q3,hq3⟩:∃q3,ds.length=q3:=⟨_,rfl⟩;rw[hq3] at hcell HRd Hjb Hlen;have Hq:=hid hq3;have Hjq:=Hjb.out;clear hq3;go_wp2_with fail
   go_loopw [5,19] (fun v i W=>∃(q:Nat)(A4:Option Addr)(c4:Nat),i=.int .i64 (q:Int)/\q<=q3/\v=.slice A4 (j+q) c4/\JC.Own 135 2 W w.heap.size (.slice A4 (j+q) c4) (j+q) (qas (qc4 (os.take k) (xs.take k)++(ds.take q).map fun s=>(⟨s,(op:Int)⟩:En)))/\Below w.heap.size w W) (fun _ i _=>q3-(intOf i).toNat)
   case atStart=>exact⟨0,A1,c1,rfl,by omega,rfl,by simpa using hO,hb⟩
   case round=>
    obtain⟨q,A4,c4,rfl,hq,rfl,hE,hb⟩:=hrel;by_cases hqt:q<q3
    ·have hql:q<ds.length:=by have:=Hq.out;omega
     have hqi:(q:Int)<(q3:Int):=by omega
     obtain⟨b6,o6,rfl,_,hc6⟩:=(HRd.out wr hb).2 q hql;have hc7:=HOc.out wr hb
     have HTs:Hid (qas (qc4 (os.take k) (xs.take k)++(ds.take (q+1)).map fun s=>(⟨s,(op:Int)⟩:En))=qas (qc4 (os.take k) (xs.take k)++(ds.take q).map fun s=>(⟨s,(op:Int)⟩:En))++[.string ds[q],.int .i64 (op:Int)]):=hid (by
      rw[zlg hql,List.map_append,<-zln,JA.qgr];rfl)
     generalize ds[q]=s at *;have hs0:=hb.size;go_wp2_with (at_builtin;go_must (refine JC.qa4 JA.kE wr w.heap.size (.slice A4 (j+q) c4) (j+q) _ hE hs0 1 1 #[.string s,.int .i64 (op:Int)] (0,0) rfl (by simp[Value.oneCell']) (by omega) (by omega) rfl (.tmp 23) (.tmp 30) rfl rfl rfl ?_);intro v7 w7 ho7 hb7 _ _;obtain⟨A7,c7,rfl,_⟩:=ho7.reads)
     have hb07:=hb.trans hb7;have ho7':JC.Own 135 2 w7 w.heap.size (.slice A7 (j+q+1) c7) (j+q+1) (qas (qc4 (os.take k) (xs.take k)++(ds.take (q+1)).map fun s=>(⟨s,(op:Int)⟩:En))):=by rw[HTs.out];exact ho7
     clear ho7 hb7 hE hb hc6 hc7;go_roundw
     ·exact⟨q+1,A7,c7,by go_num,by omega,rfl,ho7',hb07⟩
     ·simp[intOf];omega
    ·obtain rfl:q=q3:=by omega
     have hqi:¬(q:Int)<(q:Int):=by omega
     have e1:ds.take q=ds:=zlj (by have:=Hq.out;omega);rw[e1,<-HTe.out] at hE;clear e1;go_wp2_with fail
     go_roundw
     ·exact⟨k+1,j+q,A4,c4,by go_num,by omega,rfl,hid Hlen.out.symm,hE,hb⟩
     ·simp[intOf];omega
  ·obtain rfl:k=n:=by omega
   have hki:¬(k:Int)<(k:Int):=by omega
   have hT:xs.take k=xs:=zlj (by have:=Hl.out;omega);have hT2:os.take k=os:=zlj (by have:=Hl.out;omega);rw[hT,hT2] at hO;clear hT hT2;go_wp2_with fail
   go_ret
   exact⟨A1,j,c1,rfl,hO,hb⟩
end Six
namespace Six
open JB
open JS (Oth)
open JN (qev)
open JR (Mem RdM)
open JW (qbe qd0 MOk qky qez)
open JA (En qas qei qjt szS qbz qbg RdE)
theorem qpu (w:World)(B:Nat)(cs:Array Value)(h:w.heap[B]?=some (.cells cs 151 (0,0)))(hs:cs.size=3):
 (loadVar 151 ⟨B,0,none⟩).run prog w=.ok (.agg cs) w:=
 run_loadVar_row w B 151 151 cs (0,0) _ h underlying151 rfl (by rw[hs];kernel_rfl)
def put3 (W:World)(B:Nat)(v0 v1 v2:Value):World:=((W.setCell ⟨B,0,none⟩ v0).setCell ⟨B,1,none⟩ v1).setCell ⟨B,2,none⟩ v2
theorem qzj {W:World}{B:Nat}{a b c:Value}{t:TypeId}(h:W.heap[B]?=some (.cells #[a,b,c] t (0,0)))(v0 v1 v2:Value):(put3 W B v0 v1 v2).heap[B]?=some (.cells #[v0,v1,v2] t (0,0)):=
 zle _ B 2 _ _ v2 (zle _ B 1 _ _ v1 (zle W B 0 _ _ v0 h))
theorem qrr {w W:World}{K B:Nat}(h:Below K w W)(hB:K<=B)(v0 v1 v2:Value):Below K w (put3 W B v0 v1 v2):=
 ((h.setCell (p:=⟨B,0,none⟩) hB v0).setCell (p:=⟨B,1,none⟩) hB v1).setCell (p:=⟨B,2,none⟩) hB v2
theorem Qbq (W:World)(B:Nat)(v0 v1 v2:Value)(g:Nat)(hg:g≠B):(put3 W B v0 v1 v2).heap[g]?=W.heap[g]?:=
 (zly _ ⟨B,2,none⟩ v2 g hg).trans ((zly _ ⟨B,1,none⟩ v1 g hg).trans (zly W ⟨B,0,none⟩ v0 g hg))
def eOut (xs:List Mem):List UInt8:=if (qbe 0 xs).2=0 then qei (idx xs) else []
def Lay (xs:List Mem)(w:World)(e:Ending)(w':World):Prop:=
 ∃A1 n1 c1 A2 n2 c2 A3 n3 c3,e=.returned (.tuple #[.agg #[.slice A1 n1 c1,.slice A2 n2 c2,.slice A3 n3 c3],.int .i64 (qbe 0 xs).2])/\
  JC.Own 135 2 w' w.heap.size (.slice A1 n1 c1) n1 (qas (qzg xs))/\JB.Own w' w.heap.size (.slice A2 n2 c2) n2 (eOut xs)/\JC.Own 3 1 w' w.heap.size (.slice A3 n3 c3) n3 (qd0 (Qcj xs))/\Below w.heap.size w w'
theorem sls_cel {w:World}{K n:Nat}{A:Option Addr}{ns:List ByteArray}(h:JS.Rd w K A n ns):JC.Rd w K A n 1 (JA.qmk ns):=
 ⟨by simp[JA.qmk,h.1],fun k hk=>by
  have hk':k<ns.length:=by simpa [JA.qmk] using hk
  obtain⟨b,o,e,hb,hc⟩:=h.2 k hk';exact⟨b,o,e,hb,by rw[hc];simp[JA.qmk]⟩⟩
theorem Qbr (K:Nat)(A:Option Addr)(n c:Nat)(xs:List Mem)(w:World)(h:Arg8 w K A n xs):
 Calls prog 83 #[.slice A n c] w (Lay xs w):=by
 have HA:=hid h;have hrow0:=zld w (.cells #[.slice none 0 0,.slice none 0 0,.slice none 0 0] 151);have hb0:=zjB w (.cells #[.slice none 0 0,.slice none 0 0,.slice none 0 0] 151);have hsz:=zlr w (.cells #[.slice none 0 0,.slice none 0 0,.slice none 0 0] 151);have a0:=h.on hb0;have HF:=hid (JW.qpi K A n c xs _ a0.rd a0.hK a0.few.ok (by have:=a0.n20;omega));clear h a0;go_enter func83,ntmps83;go_wp2_with fail
 refine HF.out.mono ?_;rintro e w1 ⟨rfl,hb1⟩;have hb01:=hb0.trans (hb1.mono hb0.size);have hrow1:w1.heap[w.heap.size]?=some (.cells #[.slice none 0 0,.slice none 0 0,.slice none 0 0] 151 (0,0)):=(hb1.block _ (by rw[hsz];omega)).trans hrow0;have hs1:w.heap.size<w1.heap.size:=by have:=hb1.size;omega
 obtain⟨z1,hz1⟩:∃z1,(qbe 0 xs).1=z1:=⟨_,rfl⟩;obtain⟨z2,hz2⟩:∃z2,(qbe 0 xs).2=z2:=⟨_,rfl⟩;rw[hz1,hz2];have HZ:=hid hz2;have HA1:=hid (HA.out.on hb01);clear hz1 hz2 HF hb0 hb1 hsz hrow0;by_cases hz:z2=0
 ·have hzb:(z2 !=0)=false:=by rw[hz];rfl
  have HOk:Hid ((qbe 0 xs).2=0):=hid (HZ.out.trans hz);have Hn20:=hid HA.out.n20;have Hcap:=hid HA.out.cap;have Hfew:=hid HA.out.few;clear hz HZ;go_wp2_with fail
  refine (qta K A n c xs w1 HA1.out.rd HA1.out.hK Hn20.out (fun x hx=>by have:=(Hfew.out.ok x hx).len;omega) Hcap.out).mono ?_;rintro e w2 ⟨A2,c2,rfl,oL,hb2⟩;obtain⟨_,_,e2,rL,_,_⟩:=oL.reads;injection e2 with e21 _ e23;subst e21 e23;have hb02:=hb01.trans (hb2.mono hb01.size);have hrow2:=(hb2.block _ hs1).trans hrow1;have hs2:w.heap.size<w2.heap.size:=by have:=hb2.size;omega
  have HC:=hid (qis w2.heap.size A2 n c2 (Qbp xs) w2 rL zjn Hn20.out (by rw[qvh];exact Hfew.out.count));have HL:=hid rL;clear hb2 hrow1 hs1 hb01 HA1 oL rL;go_wp2_with fail
  refine HC.out.mono ?_;rintro e w3 ⟨A3,n3,c3,rfl,oN,hb3⟩;rw[qvh] at oN;obtain⟨_,_,e3,rN,_,_⟩:=oN.reads;injection e3 with e31 _ e33;subst e31 e33;have Hn3:=hid rN.1;have hb03:=hb02.trans (hb3.mono hb02.size);have hrow3:=(hb3.block _ hs2).trans hrow2;have hs3:w.heap.size<w3.heap.size:=by have:=hb3.size;omega
  have HL3:=hid (HL.out.below hb3);have HK23:=hid hb3.size;have hn3b:n3<=3000:=by rw[<-Hn3.out];exact Hfew.out.count
  have HS:=hid (JA.size_any w3.heap.size A3 n3 c3 (qa9 xs) w3 (sls_cel rN) hn3b (fun s hs=>by have:=(qt7 hs).2;omega));have HA3:=hid (HA.out.on hb03);obtain⟨bm,hbm⟩:∃bm,decide ((0:Nat)<n3)=bm:=⟨_,rfl⟩;have Hbm:Hid (bm=hmF xs):=hid (by rw[<-hbm];unfold hmF;rw[Hn3.out]);have Hms:Hid (szS (qa9 xs)<=15004):=hid Hfew.out.names;clear hb3 hrow2 hs2 hb02 HC HL oN rN;go_wp2_with fail
  refine HS.out.mono ?_;rintro e w4 ⟨rfl,rfl⟩;go_wp2_with fail
  refine (JW.qxr bm (szS (qa9 xs)) K A n c xs w4 HA3.out.g HA3.out.rd HA3.out.hK Hfew.out.ok Hn20.out (by have:=Hms.out;omega)).mono ?_;rintro e w5 ⟨A5,n5,c5,rfl,oO,hb5⟩;have ec:(if (qbe 0 xs).2=0 then qky (qez bm (szS (qa9 xs)) xs) xs else [])=qhy xs:=by rw[if_pos HOk.out,Hbm.out];rfl
  rw[ec] at oO;obtain⟨_,_,e5,rO,_,_⟩:=oO.reads;injection e5 with e51 _ e53;subst e51 e53;have hb05:=hb03.trans (hb5.mono hb03.size);have hrow5:=(hb5.block _ hs3).trans hrow3;have hs5:w.heap.size<w5.heap.size:=by have:=hb5.size;omega
  have HE:=hid (qjk w5.heap.size A2 n c2 xs A5 n5 c5 (qhy xs) w5 ((HL3.out.below (hb5.mono HK23.out)).more (by have:=hb5.size;have:=HK23.out;omega)) zjn rO (qe1 xs) Hn20.out Hfew.out.count);have HoO:=hid oO;have Hs4:=hid hs3;clear ec hb5 hrow3 hs3 hb03 HA3 HS HL3 HK23 oO rO hbm;go_wp2_with fail
  refine HE.out.mono ?_;rintro e w6 ⟨A6,n6,c6,rfl,oE,hb6⟩;have rE:RdE w6 w6.heap.size A6 n6 (idx xs):=JA.qp3 oE;have hb06:=hb05.trans (hb6.mono hb05.size);have hrow6:=(hb6.block _ hs5).trans hrow5;have hs6:w.heap.size<w6.heap.size:=by have:=hb6.size;omega
  have HoO6:=hid (HoO.out.below hb6);have HoE:=hid oE;have hn6:n6<=3000:=by rw[<-rE.1];exact Hfew.out.idx_len
  have HEn:=hid (JA.encA_any w6.heap.size A6 n6 c6 (idx xs) w6 rE zjn (by omega) (fun e he=>by have:=Few.idx_name he;omega));have Hs5:=hid hs5;clear hb6 hrow5 hs5 hb05 HE HoO oE rE;go_wp2_with fail
  refine HEn.out.mono ?_;rintro e w7 hEn;obtain⟨A7,n7,c7,rfl,hn7,o7,_,_,_,hb7⟩:=hEn.ok Hfew.out.fit;have hb07:=hb06.trans (hb7.mono hb06.size);have hrow7:=(hb7.block _ hs6).trans hrow6;have HoO7:=hid (HoO6.out.below hb7);have HoE7:=hid (HoE.out.below hb7);have Ho7:=hid o7;have Hs6:=hid hs6;have zzq:=fun k=>zjc w.heap.size k hrow7;have qf:=fun o=>zlp w7 w.heap.size o _ _ hrow7;have hl3:=qpu _ _ _ (qzj hrow7 (.slice A6 n6 c6) (.slice A7 n7 c7) (.slice A5 n5 c5)) rfl;have HP:=hid (qrr hb07 zjn (.slice A6 n6 c6) (.slice A7 n7 c7) (.slice A5 n5 c5));have HO:=hid (Qbq w7 w.heap.size (.slice A6 n6 c6) (.slice A7 n7 c7) (.slice A5 n5 c5));unfold put3 at hl3 HP HO;clear hEn hn7 o7 hb7 hrow6 hs6 hb06 HEn HoO6 HoE hrow7 hb07 hn6;go_wp2_with fail
  refine zlf (v:=.tuple #[.agg #[.slice A6 n6 c6,.slice A7 n7 c7,.slice A5 n5 c5],.int .i64 0]) (by simp[results,results83,asAddr,hl3]) rfl ⟨A6,n6,c6,A7,n7,c7,A5,n5,c5,by rw[HOk.out],?_,?_,?_,HP.out⟩
  ·have h1:=(HoE7.out.keep (fun g hg _=>HO.out g (by have:=Hs5.out;omega))).more (K':=w.heap.size) (by have:=Hs5.out;omega);unfold qzg;rw[if_pos HOk.out];exact h1
  ·have h1:=(Ho7.out.keep (fun g hg _=>HO.out g (by have:=Hs6.out;omega))).more (K':=w.heap.size) (by have:=Hs6.out;omega);unfold eOut;rw[if_pos HOk.out];exact h1
  ·have h1:=(HoO7.out.keep (fun g hg _=>HO.out g (by have:=Hs4.out;omega))).more (K':=w.heap.size) (by have:=Hs4.out;omega);unfold Qcj;rw[if_pos HOk.out];exact h1
 ·have hzb:(z2 !=0)=true:=by simpa using hz
  have HNo:Hid ((qbe 0 xs).2≠0):=hid (by rw[HZ.out];exact hz);have zzq:=fun k=>zjc w.heap.size k hrow1;have qf:=fun o=>zlp w1 w.heap.size o _ _ hrow1;have hl3:=qpu _ _ _ (qzj hrow1 (.slice none 0 0) (.slice none 0 0) (.slice none 0 0)) rfl;have HP:=hid (qrr hb01 zjn (.slice none 0 0) (.slice none 0 0) (.slice none 0 0));unfold put3 at hl3 HP;clear hz hrow1 hb01;go_wp2_with fail
  refine zlf (v:=.tuple #[.agg #[.slice none 0 0,.slice none 0 0,.slice none 0 0],.int .i64 z2]) (by simp[results,results83,asAddr,hl3]) rfl ⟨none,0,0,none,0,0,none,0,0,by rw[HZ.out],?_,?_,?_,HP.out⟩
  ·unfold qzg;rw[if_neg HNo.out];exact JC.Own.nil _ _ _ _
  ·unfold eOut;rw[if_neg HNo.out];exact JB.Own.nil _ _
  ·unfold Qcj;rw[if_neg HNo.out];exact JC.Own.nil _ _ _ _
theorem qtb (K:Nat)(A:Option Addr)(n c:Nat)(xs:List Mem)(w:World)(h:Arg8 w K A n xs):
 Calls prog 55 #[.slice A n c] w (Cmp xs w):=by
 have HA:=hid h;go_enter func55,ntmps55;go_wp2_with fail
 refine (Qbr K A n c xs w h).mono ?_;rintro e w1 ⟨A1,n1,c1,A2,n2,c2,A3,n3,c3,rfl,o1,o2,_,hb1⟩;have hrow:=zld w1 (.cells #[.slice A1 n1 c1,.slice A2 n2 c2,.slice A3 n3 c3] 151);have hbA:=zjB w1 (.cells #[.slice A1 n1 c1,.slice A2 n2 c2,.slice A3 n3 c3] 151);have zzq:=fun k=>zjc w1.heap.size k hrow;have o3:=o2.below hbA;have hb2:=hb1.trans (hbA.mono hb1.size);obtain⟨z2,hz2⟩:∃z2,(qbe 0 xs).2=z2:=⟨_,rfl⟩;rw[hz2];have HZ:=hid hz2;have Hn1:Hid ((qzg xs).length=n1):=hid (JA.qp3 o1).1;clear hrow hbA o1 hb1 h hz2 o2;by_cases hz:z2=0
 ·have hzb:(z2 !=0)=false:=by rw[hz];rfl
  have HOk:Hid ((qbe 0 xs).2=0):=hid (HZ.out.trans hz);obtain⟨bm,hbm⟩:∃bm,decide ((0:Nat)<n1)=bm:=⟨_,rfl⟩
  have Hbm:Hid (bm=hmF xs):=hid (by
   have h1:=Hn1.out;unfold qzg at h1;rw[if_pos HOk.out,qdf] at h1;rw[<-hbm,<-h1];rfl)
  obtain⟨_,_,e2,r2,_,_⟩:=o3.reads;injection e2 with e21 _ e23;subst e21 e23;have ee:eOut xs=qei (idx xs):=by unfold eOut;rw[if_pos HOk.out]
  rw[ee] at r2;have hn2:n2<=15004:=by rw[<-r2.1,qe6];exact HA.out.few.names
  have HA2:=hid (HA.out.on hb2);have hb2s:=hb2.size;have HW:=hid fun (W:World) (hW:Below w.heap.size w W) (r:JB.Rd W W.heap.size A2 n2 (qei (idx xs)))=>JW.Qe9 bm A2 n2 c2 (qei (idx xs)) W.heap.size K A n c xs W (HA.out.on hW).g r zjn (by omega) (HA.out.on hW).rd (HA.out.on hW).hK HA.out.few.ok HA.out.n20 HA.out.few.all;have HR2:=hid r2;clear hz ee o3 r2;go_wp2_with fail
  refine (HW.out _ hb2 HR2.out).mono ?_;rintro e w3 ⟨v,rfl,o4,hb3⟩;have ew:JW.Qbc bm (qei (idx xs)) xs=qfv xs:=by rw[Hbm.out];rfl
  rw[ew] at o4;have hb4:=hb2.trans (hb3.mono hb2s);have o5:=hid (o4.more (K':=w.heap.size) hb2s);clear ew o4 hb3 HW;go_wp2_with fail
  go_ret2
  exact⟨v,rfl,o5.out,hb4⟩
 ·have hzb:(z2 !=0)=true:=by simpa using hz
  have HNo:Hid ((qbe 0 xs).2≠0):=hid (by rw[HZ.out];exact hz);clear hz;go_wp2_with fail
  go_ret2
  refine⟨.slice none 0 0,by rw[HZ.out];rfl,?_,hb2⟩;have e0:qfv xs=[]:=by unfold qfv;rw[if_neg HNo.out]
  rw[e0];exact JB.Own.nil _ _
end Six
end Go.Proofs.YtlmolmohhpdhdaaGreatDoor
