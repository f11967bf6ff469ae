/-
  librarian: the members of bytes, what a command does to a
-/
import Derived.Test.YtlmolmohhpdhdaaGreatDoorYEe
import Derived.Test.YtlmolmohhpdhdaaGreatDoorYSe
import Derived.Test.YtlmolmohhpdhdaaGreatDoorYP5a
set_option maxRecDepth 100000
set_option maxHeartbeats 16000000
set_option linter.all false
namespace Go.Proofs.YtlmolmohhpdhdaaGreatDoor
open Go.RowKit Go.Proofs Tryz
namespace JL
open JB
open JR (Mem Pm St ar)
open JW (core MOk lens qbe)
open Go.Proofs.YtlmolmohhpdhdaaGreatDoor.Six (Few qfv)
open JE (qfx qfw qc1 qet qfh qbr qmr qh6 qar plN qcr qcq qg0 qc3 qvq qvr qvs qdp Qex Qey qzr qzp qzq qzs qh3 qh4 qg9 qh5 qb6)
def ofP (p:Pm):Mem:=⟨p.name,p.time,p.uid,p.gid,p.mode,none,p.data.length,0,p.data⟩
theorem core_ofP {x:Mem}(h:x.data.length=x.len):core x=ofP x.pure:=by
 obtain⟨x0,x1,x2,x3,x4,x5,x6,x7,x8⟩:=x;simp only at h;subst h;rfl
theorem qw0 {xs:List Mem}(h:∀x∈xs,x.data.length=x.len):xs.map core=(xs.map Mem.pure).map ofP:=by
 rw[List.map_map];exact List.map_congr_left fun x hx=>core_ofP (h x hx)
def qae (l:List UInt8):List Mem×Int:=if l=[] then ([],0) else ((ar l).1.mems.map ofP,(ar l).2.2)
def edS (xs:List Mem)(op:UInt8)(m:Mem)(nm:ByteArray)(z:Int)(a:ByteArray):List Mem×Int:=
 if op=114 then qfx xs m z a else if op=113 then (qfw xs xs.length m,0) else if op=100 then qet xs nm else qfh xs nm z a
structure Cmd where
 op:UInt8
 m:Mem
 nm:ByteArray
 z:Int
 a:ByteArray
def edC (xs:List Mem)(q:Cmd):List Mem×Int:=edS xs q.op q.m q.nm q.z q.a
def qju (op:UInt8):Prop:=op=114∨op=113∨op=100∨op=109∨op=120∨op=116
instance (op:UInt8):Decidable (qju op):=by unfold qju;exact inferInstance
def qbs (l:List UInt8)(q:Cmd):List UInt8×List ByteArray×List UInt8×Int:=
 if ¬qju q.op then (l,[],[],17)
 else if (qae l).2≠0 then (l,[],[],(qae l).2)
 else if q.op=116 then (l,qbr (qae l).1,[],0)
 else if q.op=120 then (l,[],qmr (qae l).1 q.nm,qh6 (qae l).1 q.nm)
 else if (edC (qae l).1 q).2≠0 then (l,[],[],(edC (qae l).1 q).2)
 else if (qbe 0 (edC (qae l).1 q).1).2≠0 then (l,[],[],(qbe 0 (edC (qae l).1 q).1).2)
 else (qfv (edC (qae l).1 q).1,[],[],0)
theorem qy3 {l:List UInt8}{q:Cmd}(h:¬qju q.op):qbs l q=(l,[],[],17):=by unfold qbs;rw[if_pos h]
theorem qte {l:List UInt8}{q:Cmd}(h:qju q.op)(hm:(qae l).2≠0):qbs l q=(l,[],[],(qae l).2):=by unfold qbs;rw[if_neg (by simpa using h),if_pos hm]
theorem qzw {l:List UInt8}{q:Cmd}(hm:(qae l).2=0)(ht:q.op=116):qbs l q=(l,qbr (qae l).1,[],0):=by
 unfold qbs;rw[if_neg (by simp[qju,ht]),if_neg (by simp[hm]),if_pos ht]
theorem qw1 {l:List UInt8}{q:Cmd}(hm:(qae l).2=0)(ht:q.op=120):qbs l q=(l,[],qmr (qae l).1 q.nm,qh6 (qae l).1 q.nm):=by
 unfold qbs;rw[if_neg (by simp[qju,ht]),if_neg (by simp[hm]),if_neg (by rw[ht];decide),if_pos ht]
def qtf (op:UInt8):Prop:=op=114∨op=113∨op=100∨op=109
instance (op:UInt8):Decidable (qtf op):=by unfold qtf;exact inferInstance
theorem qtf.ok {op:UInt8}(h:qtf op):qju op/\op≠116/\op≠120:=by
 rcases h with rfl|rfl|rfl|rfl<;>decide
theorem qpz {l:List UInt8}{q:Cmd}(hm:(qae l).2=0)(ht:qtf q.op)(he:(edC (qae l).1 q).2≠0):qbs l q=(l,[],[],(edC (qae l).1 q).2):=by
 obtain⟨h1,h2,h3⟩:=ht.ok;unfold qbs;rw[if_neg (by simpa using h1),if_neg (by simp[hm]),if_neg h2,if_neg h3,if_pos he]
theorem qtg {l:List UInt8}{q:Cmd}(hm:(qae l).2=0)(ht:qtf q.op)(he:(edC (qae l).1 q).2=0)(hf:(qbe 0 (edC (qae l).1 q).1).2≠0):qbs l q=(l,[],[],(qbe 0 (edC (qae l).1 q).1).2):=by
 obtain⟨h1,h2,h3⟩:=ht.ok;unfold qbs;rw[if_neg (by simpa using h1),if_neg (by simp[hm]),if_neg h2,if_neg h3,if_neg (by simp[he]),if_pos hf]
theorem qth {l:List UInt8}{q:Cmd}(hm:(qae l).2=0)(ht:qtf q.op)(he:(edC (qae l).1 q).2=0)(hf:(qbe 0 (edC (qae l).1 q).1).2=0):qbs l q=(qfv (edC (qae l).1 q).1,[],[],0):=by
 obtain⟨h1,h2,h3⟩:=ht.ok;unfold qbs;rw[if_neg (by simpa using h1),if_neg (by simp[hm]),if_neg h2,if_neg h3,if_neg (by simp[he]),if_neg (by simp[hf])]
theorem qzx (xs:List Mem)(op:UInt8)(m:Mem)(nm:ByteArray)(z:Int)(a:ByteArray):((edS xs op m nm z a).1.map core=(edS (xs.map core) op (core m) nm z a).1)/\(edS xs op m nm z a).2=(edS (xs.map core) op (core m) nm z a).2:=by
 unfold edS;split
 ·exact qvq xs m z a
 ·split
  ·exact⟨by rw[qdp,zlB],rfl⟩
  ·split
   ·exact qvr xs nm
   ·exact qvs xs nm z a
theorem edS_ok {xs:List Mem}{op:UInt8}{m:Mem}{nm:ByteArray}{z:Int}{a:ByteArray}(h:∀x∈xs,MOk x)(hm:MOk m):∀x∈(edS xs op m nm z a).1,MOk x:=by
 unfold edS;split
 ·exact Qex h hm
 ·split
  ·intro x hx;rcases qcr hx with rfl|hx
   ·exact hm
   ·exact h x hx
  ·split
   ·exact Qey h
   ·exact qzr h
theorem Qff {xs:List Mem}{op:UInt8}{m:Mem}{nm:ByteArray}{z:Int}{a:ByteArray}:(edS xs op m nm z a).1.length<=xs.length+1:=by
 unfold edS;split
 ·exact qzp
 ·split
  ·rw[qc3];exact Nat.le_refl _
  ·split
   ·have:=qzq (xs:=xs) (s:=nm);omega
   ·rw[qzs];exact Nat.le_succ _
theorem edS_sub {xs:List Mem}{op:UInt8}{m:Mem}{nm:ByteArray}{z:Int}{a:ByteArray}:∀x∈(edS xs op m nm z a).1,x=m∨x∈xs:=by
 unfold edS;split
 ·unfold qfx;split
  ·exact fun x hx=>.inr hx
  ·split
   ·intro x hx;rcases qcr hx with rfl|hx
    ·exact .inl rfl
    ·exact .inr (qcq hx)
   ·exact fun x hx=>qcr hx
 ·split
  ·exact fun x hx=>qcr hx
  ·split
   ·unfold qet;split
    ·exact fun x hx=>.inr hx
    ·exact fun x hx=>.inr (qcq hx)
   ·intro x hx;by_cases h1:z<0∨2<z
    ·rw[qh3 h1] at hx;exact .inr hx
    ·cases hf:qar xs nm with
     |none=>rw[qh4 h1 hf] at hx;exact .inr hx
     |some i=>
      by_cases h2:(plN (qc1 xs i) z a).2=0
      ·obtain⟨hi,_⟩:=qb6 hf;rw[qh5 h1 hf h2 hi] at hx;rcases qcr hx with rfl|hx
       ·exact .inr (zlq hi)
       ·exact .inr (qcq hx)
      ·rw[qg9 h1 hf h2] at hx;exact .inr hx
theorem qcf (a b:List Mem):lens (a++b)=lens a+lens b:=by simp[lens]
theorem qnh {xs:List Mem}{k:Nat}{m:Mem}:lens (qfw xs k m)=lens xs+m.len:=by
 have h:lens xs=lens (xs.take k)+lens (xs.drop k):=by rw[<-qcf,List.take_append_drop]
 have e:qfw xs k m=xs.take k++([m]++xs.drop k):=rfl;rw[e,qcf,qcf,h];simp[lens];omega
theorem qzy {xs:List Mem}{k:Nat}:lens (qc1 xs k)<=lens xs:=by
 have h:lens xs=lens (xs.take k)+lens (xs.drop k):=by rw[<-qcf,List.take_append_drop]
 have h2:lens (xs.drop k)=lens ((xs.drop k).take 1)+lens (xs.drop (k+1)):=by
  rw[<-List.drop_drop,<-qcf,List.take_append_drop]
 unfold qc1;rw[qcf];omega
theorem Qfg {xs:List Mem}{k:Nat}(hk:k<xs.length):lens (qc1 xs k)+xs[k].len=lens xs:=by
 have h:lens xs=lens (xs.take k)+lens (xs.drop k):=by rw[<-qcf,List.take_append_drop]
 have h2:lens (xs.drop k)=xs[k].len+lens (xs.drop (k+1)):=by
  rw[List.drop_eq_getElem_cons hk];unfold lens;rw[List.map_cons,List.sum_cons]
 unfold qc1;rw[qcf];omega
theorem qzz {xs:List Mem}{op:UInt8}{m:Mem}{nm:ByteArray}{z:Int}{a:ByteArray}:lens (edS xs op m nm z a).1<=lens xs+m.len:=by
 unfold edS;split
 ·unfold qfx;split
  ·exact Nat.le_add_right _ _
  ·split
   ·rw[qnh];have:=qzy (xs:=xs) (k:=‹Nat›);omega
   ·rw[qnh];exact Nat.le_refl _
 ·split
  ·rw[qnh];exact Nat.le_refl _
  ·split
   ·unfold qet;split
    ·exact Nat.le_add_right _ _
    ·exact Nat.le_trans qzy (Nat.le_add_right _ _)
   ·by_cases h1:z<0∨2<z
    ·rw[qh3 h1];exact Nat.le_add_right _ _
    ·cases hf:qar xs nm with
     |none=>rw[qh4 h1 hf];exact Nat.le_add_right _ _
     |some i=>
      by_cases h2:(plN (qc1 xs i) z a).2=0
      ·obtain⟨hi,_⟩:=qb6 hf;rw[qh5 h1 hf h2 hi,qnh,Qfg hi];exact Nat.le_add_right _ _
      ·rw[qg9 h1 hf h2];exact Nat.le_add_right _ _
end JL
namespace JL
open JB
open JR (Mem Pm St ar Arc qhv qft qa8)
open JW (core MOk)
open JE (qav)
theorem core_of (ps:List Pm):(ps.map ofP).map core=ps.map ofP:=by
 rw[List.map_map];exact List.map_congr_left fun p _=>rfl
theorem qw2 {l:List UInt8}(hl:l≠[]){w w':World}{x:Arc}(hx:x.is (ar l).1)(ho:qhv w' w.heap.size x)(hs:∀y∈x.mems,y.len<=140737488355328)(hb:Below w.heap.size w w'):
 qav (qae l).1 (qae l).2 w (.returned (.tuple #[.slice x.ap x.an x.ac,.int .i64 (ar l).2.2])) w':=by
 have e:qae l=((ar l).1.mems.map ofP,(ar l).2.2):=if_neg hl;rw[e];refine⟨x.ap,x.an,x.ac,x.mems,rfl,ho.mems,ho.data,?_,hs,hb⟩;show _=(((ar l).1.mems).map ofP).map core
 rw[core_of,qw0 (fun y hy=>(ho.data y hy).1),hx.2.2.1]
theorem qw3 (A:Option Addr)(n c:Nat)(l:List UInt8)(w:World)(hr:JB.Rd w w.heap.size A n l)(hnc:n<=c)(hn:n<100000):
 Calls prog 37 #[.slice A n c] w (qav (qae l).1 (qae l).2 w):=by
 have Hl:=hid hr.1;have HP:=hid (JR.qm2 A n c l w hr hnc hn);clear hr;go_enter func37,ntmps37;by_cases h0:n=0
 ·have hl:l=[]:=zli (by rw[Hl.out];exact h0);subst h0;have e:qae l=([],0):=by rw[hl];rfl
  have hC:qav (qae l).1 (qae l).2 w (.returned (.tuple #[.slice none 0 0,.int .i64 0])) w:=by
   rw[e];exact⟨none,0,0,[],rfl,JC.Own.nil _ _ _ _,fun x hx=>by simp at hx,rfl,fun x hx=>by simp at hx,Below.refl _ _⟩
  clear HP e hl;go_wp2_with fail
  go_ret2
  exact hC
 ·have hl:l≠[]:=fun e=>h0 (by rw[<-Hl.out,e];rfl);have hni:((n:Int)==0)=false:=by simpa using h0
  clear h0;go_wp2_with fail
  refine HP.out.mono ?_;rintro e w1 ⟨x,rfl,hx,ho,hb⟩;have hb2:=zjB w1 (.cells #[.bool x.hasMap,.slice x.mp x.mn x.mc,.slice x.ap x.an x.ac,.slice x.op x.on x.oc] 124)
  have hC:=qw2 hl hx (ho.below hb2) (fun y hy=>by
   have h1:=(ho.reads.2.1.2);obtain⟨k,hk,rfl⟩:=List.getElem_of_mem hy;exact (h1 k hk).2.2) (hb.trans (hb2.mono hb.size))
  have HC:=hid hC;obtain⟨xh,mp,mn,mc,xm,ap,an,ac,xms,op,on,oc,xos⟩:=x;simp only[JR.Arc.val];simp only at HC;clear hx ho hb hC hb2;go_wp2_with fail
  go_ret2
  exact HC.out
end JL
namespace JL
open JB
open JR (Mem RdM qft qa8)
open JW (core MOk)
open JE (qav qd1 qi6 qfx qfw qet qfh)
def Cmd.cells (q:Cmd):Array Value:=#[.int .u8 (q.op.toNat:Int),.string q.m.name,.int .i64 q.m.time,.int .i64 q.m.uid,.int .i64 q.m.gid,.int .i64 q.m.mode,.slice q.m.ptr q.m.len q.m.cap,.string q.nm,.int .i64 q.z,.string q.a]
def Cmd.val (q:Cmd):Value:=.agg q.cells
structure qef (w:World) (K:Nat) (q:Cmd):Prop where
 ok:MOk q.m
 rd:JB.Rd w K q.m.ptr q.m.len q.m.data
 hK:K<=w.heap.size
 cap:q.m.len<=q.m.cap/\q.m.cap<=maxLen
 zl: -9223372036854775808<=q.z
 zu:q.z<9223372036854775808
 dl:q.m.data.length=q.m.len
 l5:q.m.len<=500
theorem qef.on {w w':World}{K:Nat}{q:Cmd}(h:qef w K q)(hb:Below w.heap.size w w'):qef w' K q:=
 ⟨h.ok,h.rd.below (hb.mono h.hK),Nat.le_trans h.hK hb.size,h.cap,h.zl,h.zu,h.dl,h.l5⟩
theorem edC_r {xs:List Mem}{q:Cmd}(h:q.op=114):edC xs q=qfx xs q.m q.z q.a:=by unfold edC edS;rw[if_pos h]
theorem edC_q {xs:List Mem}{q:Cmd}(h:q.op=113):edC xs q=(qfw xs xs.length q.m,0):=by unfold edC edS;rw[if_neg (by rw[h];decide),if_pos h]
theorem edC_d {xs:List Mem}{q:Cmd}(h:q.op=100):edC xs q=qet xs q.nm:=by unfold edC edS;rw[if_neg (by rw[h];decide),if_neg (by rw[h];decide),if_pos h]
theorem edC_m {xs:List Mem}{q:Cmd}(h1:q.op≠114)(h2:q.op≠113)(h3:q.op≠100):edC xs q=qfh xs q.nm q.z q.a:=by unfold edC edS;rw[if_neg h1,if_neg h2,if_neg h3]
theorem qcg {op:UInt8}{k:Nat}(hk:k<256):((op.toNat:Int)==(k:Int))=decide (op=UInt8.ofNat k):=by
 by_cases h:op=UInt8.ofNat k
 ·subst h;have e:(UInt8.ofNat k).toNat=k:=by rw[UInt8.toNat_ofNat'];omega
  rw[e];simp
 ·have e:op.toNat≠k:=fun e=>h (by rw[<-e];simp);have e2:¬((op.toNat:Int)=(k:Int)):=by omega
  simp[h,e2]
theorem redit_r (K:Nat)(A:Option Addr)(n c:Nat)(xs:List Mem)(q:Cmd)(w:World)(h:RdM w K A n xs)(hK:K<=w.heap.size)(hok:∀x∈xs,MOk x)(hn:n<=300)(hq:qef w K q)(ho:q.op=114):
 Calls prog 40 #[.slice A n c,q.val] w (qav (edC xs q).1 (edC xs q).2 w):=by
 have Hl:=hid h.1;have HE:=hid (edC_r (xs:=xs) ho);have hb1:=zjB w (.cells q.cells 67);have hrow:=zld w (.cells q.cells 67);have H1:=hid (h.below (hb1.mono hK));have HQ:=hid (hq.on hb1);have k1:=hb1.size;have b114:((q.op.toNat:Int)==114)=true:=by have:=qcg (op:=q.op) (k:=114) (by omega);rw[show ((114:Nat):Int)=114 from rfl] at this;rw[this];exact decide_eq_true ho
 obtain⟨op,⟨m0,m1,m2,m3,m4,m5,m6,m7,m8⟩,nm,z,a⟩:=q;simp only[Cmd.val,Cmd.cells] at *;clear h ho hq;go_enter func40,ntmps40;go_upto_region 1 with fail
 generalize w.alloc (.cells #[.int .u8 (op.toNat:Int),.string m0,.int .i64 m1,.int .i64 m2,.int .i64 m3,.int .i64 m4,.slice m5 m6 m7,.string nm,.int .i64 z,.string a] 67)=w1 at *;have zzd:=fun k=>zjc w.heap.size k hrow;have HC:=hid (JE.qvp K A n c xs ⟨m0,m1,m2,m3,m4,m5,m6,m7,m8⟩ z a w1 H1.out HQ.out.hK hok hn HQ.out.ok HQ.out.rd);unfold qi6 at HC;simp only[Mem.val] at HC;have HB:=hid hb1;clear hrow hb1;go_wp2_with fail
 refine HC.out.mono ?_;rintro e w2 ⟨A2,n2,c2,ys,rfl,o2,dd2,hc2,hs2,hb2⟩;go_wp2_with fail
 exact zlf (v:=.tuple #[.slice A2 n2 c2,.int .i64 (qfx xs ⟨m0,m1,m2,m3,m4,m5,m6,m7,m8⟩ z a).2]) (by simp[results,results40,asAddr]) rfl ⟨A2,n2,c2,ys,by rw[HE.out],o2.more k1,fun y hy=>(dd2 y hy).more k1,by rw[HE.out];exact hc2,hs2,HB.out.trans (hb2.mono k1)⟩
theorem redit_q (K:Nat)(A:Option Addr)(n c:Nat)(xs:List Mem)(q:Cmd)(w:World)(h:RdM w K A n xs)(hK:K<=w.heap.size)(hok:∀x∈xs,MOk x)(hn:n<=300)(hq:qef w K q)(ho:q.op=113):
 Calls prog 40 #[.slice A n c,q.val] w (qav (edC xs q).1 (edC xs q).2 w):=by
 have Hl:=hid h.1;have HE:=hid (edC_q (xs:=xs) ho);have hb1:=zjB w (.cells q.cells 67);have hrow:=zld w (.cells q.cells 67);have H1:=hid (h.below (hb1.mono hK));have HQ:=hid (hq.on hb1);have k1:=hb1.size;have b114:((q.op.toNat:Int)==114)=false:=by have:=qcg (op:=q.op) (k:=114) (by omega);rw[show ((114:Nat):Int)=114 from rfl] at this;rw[this];exact decide_eq_false (by rw[ho];decide)
 have b113:((q.op.toNat:Int)==113)=true:=by have:=qcg (op:=q.op) (k:=113) (by omega);rw[show ((113:Nat):Int)=113 from rfl] at this;rw[this];exact decide_eq_true ho
 obtain⟨op,⟨m0,m1,m2,m3,m4,m5,m6,m7,m8⟩,nm,z,a⟩:=q;simp only[Cmd.val,Cmd.cells] at *;clear h ho hq;go_enter func40,ntmps40;go_upto_region 1 with fail
 generalize w.alloc (.cells #[.int .u8 (op.toNat:Int),.string m0,.int .i64 m1,.int .i64 m2,.int .i64 m3,.int .i64 m4,.slice m5 m6 m7,.string nm,.int .i64 z,.string a] 67)=w1 at *;have zzd:=fun k=>zjc w.heap.size k hrow;have HC:=hid (JE.qy2 K A n c xs ⟨m0,m1,m2,m3,m4,m5,m6,m7,m8⟩ w1 H1.out HQ.out.hK hok hn HQ.out.ok HQ.out.rd);simp only[Mem.val] at HC;rw[Hl.out] at HE;have HB:=hid hb1;clear hrow hb1;go_wp2_with fail
 refine HC.out.mono ?_;rintro e w2 ⟨A2,n2,c2,ys,rfl,o2,dd2,hc2,hs2,hb2⟩;go_wp2_with fail
 exact zlf (v:=.tuple #[.slice A2 n2 c2,.int .i64 0]) (by simp[results,results40,asAddr]) rfl ⟨A2,n2,c2,ys,by rw[HE.out],o2.more k1,fun y hy=>(dd2 y hy).more k1,by rw[HE.out];exact hc2,hs2,HB.out.trans (hb2.mono k1)⟩
theorem redit_d (K:Nat)(A:Option Addr)(n c:Nat)(xs:List Mem)(q:Cmd)(w:World)(h:RdM w K A n xs)(hK:K<=w.heap.size)(hok:∀x∈xs,MOk x)(hn:n<=300)(hq:qef w K q)(ho:q.op=100):
 Calls prog 40 #[.slice A n c,q.val] w (qav (edC xs q).1 (edC xs q).2 w):=by
 have Hl:=hid h.1;have HE:=hid (edC_d (xs:=xs) ho);have hb1:=zjB w (.cells q.cells 67);have hrow:=zld w (.cells q.cells 67);have H1:=hid (h.below (hb1.mono hK));have HQ:=hid (hq.on hb1);have k1:=hb1.size;have b114:((q.op.toNat:Int)==114)=false:=by have:=qcg (op:=q.op) (k:=114) (by omega);rw[show ((114:Nat):Int)=114 from rfl] at this;rw[this];exact decide_eq_false (by rw[ho];decide)
 have b113:((q.op.toNat:Int)==113)=false:=by have:=qcg (op:=q.op) (k:=113) (by omega);rw[show ((113:Nat):Int)=113 from rfl] at this;rw[this];exact decide_eq_false (by rw[ho];decide)
 have b100:((q.op.toNat:Int)==100)=true:=by have:=qcg (op:=q.op) (k:=100) (by omega);rw[show ((100:Nat):Int)=100 from rfl] at this;rw[this];exact decide_eq_true ho
 obtain⟨op,⟨m0,m1,m2,m3,m4,m5,m6,m7,m8⟩,nm,z,a⟩:=q;simp only[Cmd.val,Cmd.cells] at *;clear h ho hq;go_enter func40,ntmps40;go_upto_region 1 with fail
 generalize w.alloc (.cells #[.int .u8 (op.toNat:Int),.string m0,.int .i64 m1,.int .i64 m2,.int .i64 m3,.int .i64 m4,.slice m5 m6 m7,.string nm,.int .i64 z,.string a] 67)=w1 at *;have zzd:=fun k=>zjc w.heap.size k hrow;have HC:=hid (JE.qy1 K A n c xs nm w1 H1.out HQ.out.hK hok hn);skip
 have HB:=hid hb1;clear hrow hb1;go_wp2_with fail
 refine HC.out.mono ?_;rintro e w2 ⟨A2,n2,c2,ys,rfl,o2,dd2,hc2,hs2,hb2⟩;go_wp2_with fail
 exact zlf (v:=.tuple #[.slice A2 n2 c2,.int .i64 (qet xs nm).2]) (by simp[results,results40,asAddr]) rfl ⟨A2,n2,c2,ys,by rw[HE.out],o2.more k1,fun y hy=>(dd2 y hy).more k1,by rw[HE.out];exact hc2,hs2,HB.out.trans (hb2.mono k1)⟩
theorem redit_m (K:Nat)(A:Option Addr)(n c:Nat)(xs:List Mem)(q:Cmd)(w:World)(h:RdM w K A n xs)(hK:K<=w.heap.size)(hok:∀x∈xs,MOk x)(hn:n<=300)(hq:qef w K q)(ho:q.op≠114/\q.op≠113/\q.op≠100):
 Calls prog 40 #[.slice A n c,q.val] w (qav (edC xs q).1 (edC xs q).2 w):=by
 have Hl:=hid h.1;have HE:=hid (edC_m (xs:=xs) ho.1 ho.2.1 ho.2.2);have hb1:=zjB w (.cells q.cells 67);have hrow:=zld w (.cells q.cells 67);have H1:=hid (h.below (hb1.mono hK));have HQ:=hid (hq.on hb1);have k1:=hb1.size;have b114:((q.op.toNat:Int)==114)=false:=by have:=qcg (op:=q.op) (k:=114) (by omega);rw[show ((114:Nat):Int)=114 from rfl] at this;rw[this];exact decide_eq_false ho.1
 have b113:((q.op.toNat:Int)==113)=false:=by have:=qcg (op:=q.op) (k:=113) (by omega);rw[show ((113:Nat):Int)=113 from rfl] at this;rw[this];exact decide_eq_false ho.2.1
 have b100:((q.op.toNat:Int)==100)=false:=by have:=qcg (op:=q.op) (k:=100) (by omega);rw[show ((100:Nat):Int)=100 from rfl] at this;rw[this];exact decide_eq_false ho.2.2
 obtain⟨op,⟨m0,m1,m2,m3,m4,m5,m6,m7,m8⟩,nm,z,a⟩:=q;simp only[Cmd.val,Cmd.cells] at *;clear h ho hq;go_enter func40,ntmps40;go_upto_region 1 with fail
 generalize w.alloc (.cells #[.int .u8 (op.toNat:Int),.string m0,.int .i64 m1,.int .i64 m2,.int .i64 m3,.int .i64 m4,.slice m5 m6 m7,.string nm,.int .i64 z,.string a] 67)=w1 at *;have zzd:=fun k=>zjc w.heap.size k hrow;have HC:=hid (JE.Qev K A n c xs nm z a w1 H1.out HQ.out.hK hok hn);unfold qi6 at HC;have HB:=hid hb1;clear hrow hb1;go_wp2_with fail
 refine HC.out.mono ?_;rintro e w2 ⟨A2,n2,c2,ys,rfl,o2,dd2,hc2,hs2,hb2⟩;go_wp2_with fail
 exact zlf (v:=.tuple #[.slice A2 n2 c2,.int .i64 (qfh xs nm z a).2]) (by simp[results,results40,asAddr]) rfl ⟨A2,n2,c2,ys,by rw[HE.out],o2.more k1,fun y hy=>(dd2 y hy).more k1,by rw[HE.out];exact hc2,hs2,HB.out.trans (hb2.mono k1)⟩
theorem Qfh (K:Nat)(A:Option Addr)(n c:Nat)(xs:List Mem)(q:Cmd)(w:World)(h:RdM w K A n xs)(hK:K<=w.heap.size)(hok:∀x∈xs,MOk x)(hn:n<=300)(hq:qef w K q):
 Calls prog 40 #[.slice A n c,q.val] w (qav (edC xs q).1 (edC xs q).2 w):=by
 by_cases h1:q.op=114
 ·exact redit_r K A n c xs q w h hK hok hn hq h1
 by_cases h2:q.op=113
 ·exact redit_q K A n c xs q w h hK hok hn hq h2
 by_cases h3:q.op=100
 ·exact redit_d K A n c xs q w h hK hok hn hq h3
 exact redit_m K A n c xs q w h hK hok hn hq ⟨h1,h2,h3⟩
end JL
namespace JL
open JB
open JS (Oth)
open JR (Mem RdM qft qa8 qdn ar)
open JW (core MOk lens qbe qai qbb)
open Go.Proofs.YtlmolmohhpdhdaaGreatDoor.Six (Few qfv)
open JE (qav qd1 qi6 qfx qfw qc1 qet qfh qbr qmr qh6 qar qaz qc6 qb6 qpw)
def qy4 (l:List UInt8)(q:Cmd)(w:World)(e:Ending)(w':World):Prop:=
 ∃(A:Option Addr)(n c:Nat)(B:Option Addr)(k d:Nat)(D:Option Addr)(j f:Nat),e=.returned (.tuple #[.agg #[.slice A n c,.slice B k d,.slice D j f],.int .i64 (qbs l q).2.2.2])/\JB.Own w' w.heap.size (.slice A n c) n (qbs l q).1/\JS.Own w' w.heap.size (.slice B k d) k (qbs l q).2.1/\JB.Own w' w.heap.size (.slice D j f) j (qbs l q).2.2.1/\Below w.heap.size w w'
def Qfi (W:World)(B:Nat)(v0 v1 v2:Value):World:=((W.setCell ⟨B,0,none⟩ v0).setCell ⟨B,1,none⟩ v1).setCell ⟨B,2,none⟩ v2
theorem Qa0 {W:World}{B:Nat}{a b c:Value}{t:TypeId}(h:W.heap[B]?=some (.cells #[a,b,c] t (0,0)))(v0 v1 v2:Value):(Qfi W B v0 v1 v2).heap[B]?=some (.cells #[v0,v1,v2] t (0,0)):=
 zle _ B 2 _ _ v2 (zle _ B 1 _ _ v1 (zle W B 0 _ _ v0 h))
theorem qi7 {W:World}{B:Nat}(v0 v1 v2:Value)(g:Nat)(hg:g≠B):(Qfi W B v0 v1 v2).heap[g]?=W.heap[g]?:=by
 unfold Qfi;rw[zly _ ⟨B,2,none⟩ _ g hg,zly _ ⟨B,1,none⟩ _ g hg,zly _ ⟨B,0,none⟩ _ g hg]
theorem qm7 {w W:World}{K B:Nat}(h:Below K w W)(hB:K<=B)(v0 v1 v2:Value):Below K w (Qfi W B v0 v1 v2):=
 ((h.setCell (p:=⟨B,0,none⟩) hB v0).setCell (p:=⟨B,1,none⟩) hB v1).setCell (p:=⟨B,2,none⟩) hB v2
theorem qpu {W:World}{B:Nat}{a b c:Value}(h:W.heap[B]?=some (.cells #[a,b,c] 70 (0,0)))(v0 v1 v2:Value):
 (loadVar 70 ⟨B,0,none⟩).run prog (((W.setCell ⟨B,0,none⟩ v0).setCell ⟨B,1,none⟩ v1).setCell ⟨B,2,none⟩ v2)=.ok (.agg #[v0,v1,v2]) (((W.setCell ⟨B,0,none⟩ v0).setCell ⟨B,1,none⟩ v1).setCell ⟨B,2,none⟩ v2):=
 run_loadVar_row _ B 70 70 #[v0,v1,v2] (0,0) _ (Qa0 h v0 v1 v2) underlying70 rfl (by kernel_rfl)
theorem qy4.set {l:List UInt8}{q:Cmd}{w W:World}{B:Nat}{x y u:Value}{A:Option Addr}{n c:Nat}{E:Option Addr}{k d:Nat}{D:Option Addr}{j f:Nat}{l1:List UInt8}{l2:List ByteArray}{l3:List UInt8}{z:Int}
 (e:qbs l q=(l1,l2,l3,z))(hB:W.heap[B]?=some (.cells #[x,y,u] 70 (0,0)))(hle:w.heap.size<=B)(hb:Below w.heap.size w W)
 (h1:JB.Own W w.heap.size (.slice A n c) n l1)(h2:JS.Own W w.heap.size (.slice E k d) k l2)(h3:JB.Own W w.heap.size (.slice D j f) j l3):
 qy4 l q w (.returned (.tuple #[.agg #[.slice A n c,.slice E k d,.slice D j f],.int .i64 z])) (((W.setCell ⟨B,0,none⟩ (.slice A n c)).setCell ⟨B,1,none⟩ (.slice E k d)).setCell ⟨B,2,none⟩ (.slice D j f)):=by
 have ho:Oth 70 W (Qfi W B (.slice A n c) (.slice E k d) (.slice D j f)):=Oth.put hB fun g hg=>qi7 _ _ _ g hg;exact⟨A,n,c,E,k,d,D,j,f,by rw[e],by rw[e];exact qai h1 ho (by decide),by rw[e];exact qbb h2 ho (by decide),by rw[e];exact qai h3 ho (by decide),qm7 hb hle _ _ _⟩
structure BOk (l:List UInt8):Prop where
 len:l.length<=99000
 n:(qae l).1.length<=199
 all:lens (qae l).1<=14500
 ok:∀x∈(qae l).1,MOk x
 dl:∀x∈(qae l).1,x.data.length=x.len
theorem Qa1 {xs ys:List Mem}(h:xs.map core=ys.map core)(q:Cmd):(edC xs q).1.map core=(edC ys q).1.map core/\(edC xs q).2=(edC ys q).2:=by
 obtain⟨a1,a2⟩:=qzx xs q.op q.m q.nm q.z q.a;obtain⟨b1,b2⟩:=qzx ys q.op q.m q.nm q.z q.a;unfold edC;rw[a1,a2,b1,b2,h];exact⟨rfl,rfl⟩
theorem qy5 {xs ys:List Mem}(h:xs.map core=ys.map core)(hy:∀y∈ys,MOk y):∀x∈xs,MOk x:=JE.qzn h hy
theorem dl_cong {xs ys:List Mem}(h:xs.map core=ys.map core)(hy:∀y∈ys,y.data.length=y.len):∀x∈xs,x.data.length=x.len:=fun x hx=>by
 have h1:core x∈ys.map core:=h ▸ List.mem_map_of_mem hx;obtain⟨y,hy',e⟩:=List.mem_map.1 h1;have e1:y.data=x.data:=show (core y).data=(core x).data from congrArg Mem.data e
 have e2:y.len=x.len:=show (core y).len=(core x).len from congrArg Mem.len e
 rw[<-e1,<-e2];exact hy y hy'
theorem Qfj {xs:List Mem}{q:Cmd}(h1:xs.length<=199)(h2:lens xs<=14500)(h3:∀x∈xs,MOk x)(h4:∀x∈xs,x.data.length=x.len)(hm:MOk q.m)(hd:q.m.data.length=q.m.len)(hl:q.m.len<=500):Few (edC xs q).1:=
 ⟨Nat.le_trans Qff (by omega),edS_ok h3 hm,fun x hx=>by rcases edS_sub x hx with rfl|hx;exact hd;exact h4 x hx,Nat.le_trans qzz (by omega)⟩
theorem Qfk {xs ys:List Mem}(h:xs.map core=ys.map core):lens xs=lens ys:=by rw[<-Six.qi1,h,Six.qi1]
theorem qq0 (xs:List Mem):qbr (xs.map core)=qbr xs:=by unfold qbr;rw[List.map_map];rfl
theorem qw4 (xs:List Mem)(s:ByteArray):qmr (xs.map core) s=qmr xs s:=by
 unfold qmr;rw[qc6]
 cases qar xs s with
 |none=>rfl
 |some i=>
  show (((xs.map core)[i]?).map (·.data)).getD []=((xs[i]?).map (·.data)).getD []
  rw[zlF];cases xs[i]?<;>rfl
theorem qw5 (xs:List Mem)(s:ByteArray):qh6 (xs.map core) s=qh6 xs s:=by unfold qh6;rw[qc6]
theorem qti {xs ys:List Mem}(h:xs.map core=ys.map core)(s:ByteArray):qmr xs s=qmr ys s/\qh6 xs s=qh6 ys s/\qbr xs=qbr ys:=by
 rw[<-qw4 xs,h,qw4,<-qw5 xs,h,qw5,<-qq0 xs,h,qq0];exact⟨rfl,rfl,rfl⟩
theorem qef.more {w:World}{K K':Nat}{q:Cmd}(h:qef w K q)(hK:K<=K')(hw:K'<=w.heap.size):qef w K' q:=⟨h.ok,h.rd.more hK,hw,h.cap,h.zl,h.zu,h.dl,h.l5⟩
structure OpT (op:UInt8) (a b c d e f e' f':Bool):Prop where
 b114:((op.toNat:Int)==114)=a
 b113:((op.toNat:Int)==113)=b
 b100:((op.toNat:Int)==100)=c
 b109:((op.toNat:Int)==109)=d
 b120:((op.toNat:Int)==120)=e
 b116:((op.toNat:Int)==116)=f
 c120:((op.toNat:Int) !=120)=e'
 c116:((op.toNat:Int) !=116)=f'
theorem op_t (op:UInt8):OpT op (decide (op=114)) (decide (op=113)) (decide (op=100)) (decide (op=109)) (decide (op=120)) (decide (op=116)) (!decide (op=120)) (!decide (op=116)):=
 ⟨qcg (k:=114) (by omega),qcg (k:=113) (by omega),qcg (k:=100) (by omega),qcg (k:=109) (by omega),qcg (k:=120) (by omega),qcg (k:=116) (by omega),congrArg not (qcg (k:=120) (by omega)),congrArg not (qcg (k:=116) (by omega))⟩
theorem op_tab (op:UInt8):(¬qju op/\OpT op false false false false false false true true)∨(op=116/\OpT op false false false false false true true false)∨(op=120/\OpT op false false false false true false false true)∨(op=114/\OpT op true false false false false false true true)∨(op=113/\OpT op false true false false false false true true)∨(op=100/\OpT op false false true false false false true true)∨(op=109/\OpT op false false false true false false true true):=by
 have h:=op_t op;by_cases h0:qju op
 ·rcases h0 with rfl|rfl|rfl|rfl|rfl|rfl
  ·exact .inr (.inr (.inr (.inl ⟨rfl,h⟩)))
  ·exact .inr (.inr (.inr (.inr (.inl ⟨rfl,h⟩))))
  ·exact .inr (.inr (.inr (.inr (.inr (.inl ⟨rfl,h⟩)))))
  ·exact .inr (.inr (.inr (.inr (.inr (.inr ⟨rfl,h⟩)))))
  ·exact .inr (.inr (.inl ⟨rfl,h⟩))
  ·exact .inr (.inl ⟨rfl,h⟩)
 ·have h1:=h0;simp only[qju,not_or] at h1;obtain⟨a,b,c,d,e,f⟩:=h1;rw[decide_eq_false a,decide_eq_false b,decide_eq_false c,decide_eq_false d,decide_eq_false e,decide_eq_false f] at h;exact .inl ⟨h0,h⟩
theorem rrun_any (A:Option Addr)(n c:Nat)(l:List UInt8)(q:Cmd)(w:World)(hr:JB.Rd w w.heap.size A n l)(hnc:n<=c)(hB:BOk l)(hq:qef w w.heap.size q):
 Calls prog 27 #[.slice A n c,q.val] w (qy4 l q w):=by
 have hn:n<=99000:=by rw[<-hr.1];exact hB.len
 have HB:=hid hB;have HQ:=hid hq;have Hr:=hid hr;have Hnc:=hid hnc;have HT:=hid (op_tab q.op);clear hr hB hq hnc;obtain⟨wA,hA⟩:∃wA,wA=w.alloc (.cells #[.int .u8 (q.op.toNat:Int),.string q.m.name,.int .i64 q.m.time,.int .i64 q.m.uid,.int .i64 q.m.gid,.int .i64 q.m.mode,.slice q.m.ptr q.m.len q.m.cap,.string q.nm,.int .i64 q.z,.string q.a] 67):=⟨_,rfl⟩;obtain⟨w1,h1⟩:∃w1,w1=wA.alloc (.cells #[.slice none 0 0,.slice none 0 0,.slice none 0 0] 70):=⟨_,rfl⟩;have bC:=zjB w (.cells #[.int .u8 (q.op.toNat:Int),.string q.m.name,.int .i64 q.m.time,.int .i64 q.m.uid,.int .i64 q.m.gid,.int .i64 q.m.mode,.slice q.m.ptr q.m.len q.m.cap,.string q.nm,.int .i64 q.z,.string q.a] 67);have hC:=zld w (.cells #[.int .u8 (q.op.toNat:Int),.string q.m.name,.int .i64 q.m.time,.int .i64 q.m.uid,.int .i64 q.m.gid,.int .i64 q.m.mode,.slice q.m.ptr q.m.len q.m.cap,.string q.nm,.int .i64 q.z,.string q.a] 67);have sC:=zlr w (.cells #[.int .u8 (q.op.toNat:Int),.string q.m.name,.int .i64 q.m.time,.int .i64 q.m.uid,.int .i64 q.m.gid,.int .i64 q.m.mode,.slice q.m.ptr q.m.len q.m.cap,.string q.nm,.int .i64 q.z,.string q.a] 67);have bR:=zjB wA (.cells #[.slice none 0 0,.slice none 0 0,.slice none 0 0] 70);have hR:=zld wA (.cells #[.slice none 0 0,.slice none 0 0,.slice none 0 0] 70);have sR:=zlr wA (.cells #[.slice none 0 0,.slice none 0 0,.slice none 0 0] 70);rw[<-hA] at bC hC sC;rw[<-h1] at bR hR sR;unfold Cmd.val Cmd.cells;go_enter func27,ntmps27;go_upto_region 1 with fail
 rw[<-hA,<-h1];clear hA h1;rw[sC] at hR sR bR;obtain⟨g,hg⟩:∃g,w.heap.size=g:=⟨_,rfl⟩;have HG:=hid hg;rw[hg] at hC hR sR bR bC |-;have b1:Below g w w1:=bC.trans (bR.mono (by omega));have hC1:=(bR.block g (by omega)).trans hC;have s1:g+1<w1.heap.size:=by omega
 have hr1:JB.Rd w1 g A n l:=by have:=Hr.out;rw[hg] at this;exact this.below b1
 clear hC bC sC bR sR hg;have hbe:=zjB w1 (.cells #[] 5);have hlit:=JB.Own.lit0 w1 w1.heap.size zjn;have HRG:=hid hC1;have HR1:=hid hR;have Hr1:=hid hr1;have hr2:=hr1.below (hbe.mono (by omega));clear hC1 hR hr1;go_upto_region 2 with (at_builtin;go_must (refine qcc _ w1.heap.size _ 0 [] hlit hbe.size A n c g l hr2 (by omega) rfl (.tmp 17) (.tmp 18) rfl rfl rfl ?_);intro v2 w2 ho2 hb2 _;rw[Nat.zero_add,zlI] at ho2;obtain⟨A2,c2,rfl,_⟩:=ho2.reads)
 have b12:=hbe.trans hb2;have bS:=zjB w2 (.cells #[.slice A2 n c2,.slice none 0 0,.slice none 0 0] 70);have hS:=zld w2 (.cells #[.slice A2 n c2,.slice none 0 0,.slice none 0 0] 70);have sS:=zlr w2 (.cells #[.slice A2 n c2,.slice none 0 0,.slice none 0 0] 70);generalize w2.alloc (.cells #[.slice A2 n c2,.slice none 0 0,.slice none 0 0] 70)=w3 at *;have s12:=b12.size;have b13:=b12.trans (bS.mono s12);have HO3:=hid ((ho2.below bS).more (show g<=w1.heap.size by omega));have HB3:=hid (b1.trans (b13.mono (by omega)));have HRG3:=hid ((b13.block g (by omega)).trans HRG.out);have HR13:=hid ((b13.block (g+1) s1).trans HR1.out);obtain⟨s,hs⟩:∃s,w2.heap.size=s:=⟨_,rfl⟩;rw[hs] at hS sS |-;have HRS3:=hid hS;have h3g:g+1<s:=by omega
 have h3s:s<w3.heap.size:=by omega
 have Hr3:=hid ((Hr1.out.below (b13.mono (by omega))).more (show g<=w3.heap.size by omega));clear hbe hlit hr2 ho2 hb2 b12 bS hS sS b13 HRG HR1 hs s12 s1 b1 Hr1;rcases HT.out with ⟨ho,t⟩|⟨ho,t⟩|⟨ho,t⟩|⟨ho,t⟩|⟨ho,t⟩|⟨ho,t⟩|⟨ho,t⟩
 all_goals obtain⟨b114,b113,b100,b109,b120,b116,c120,c116⟩:=t
 all_goals have HO:=hid ho
 all_goals clear ho HT
 ·have HE:=hid (qy3 (l:=l) HO.out);have d0:=zjc g 0 HRG3.out;have e0:=zjc s 0 HRS3.out;have e1:=zjc s 1 HRS3.out;have e2:=zjc s 2 HRS3.out;have zzr:=fun k=>zjc (g+1) k HR13.out;have fw3:∀o,w3.frozen? ⟨g+1,o,none⟩=false:=fun o=>by simp[World.frozen?,HR13.out]
  have hl:=qpu HR13.out (.slice A2 n c2) (.slice none 0 0) (.slice none 0 0);have hP:=qy4.set (q:=q) (w:=w) HE.out HR13.out (by rw[HG.out];omega) (by rw[HG.out];exact HB3.out) (by rw[HG.out];exact HO3.out) (by rw[HG.out];exact (JS.Own.nil _ _)) (by rw[HG.out];exact (JB.Own.nil _ _));go_wp2_with fail
  exact zlf (v:=.tuple #[.agg #[.slice A2 n c2,.slice none 0 0,.slice none 0 0],.int .i64 17]) (by simp[results,results27,asAddr,hl]) rfl hP
 all_goals
  have HOK:=hid (show qju q.op by unfold qju;rw[HO.out];decide);have d0:=zjc g 0 HRG3.out;go_wp2_with fail
  refine (qw3 A n c l w3 Hr3.out Hnc.out (by omega)).mono ?_;rintro e w4 ⟨Am,km,cm,ms,rfl,om,dm,hcm,hsm,b4⟩;have s34:=b4.size;have HB4:=hid (HB3.out.trans (b4.mono (by omega)));have HO4:=hid (HO3.out.below b4);have HRG4:=hid ((b4.block g (by omega)).trans HRG3.out);have HR14:=hid ((b4.block (g+1) (by omega)).trans HR13.out);have HRS4:=hid ((b4.block s h3s).trans HRS3.out);have Hcm:=hid hcm;have Hom:=hid om;have Hdm:=hid dm;clear d0 b4 HB3 HO3 HRG3 HR13 HRS3 hcm om dm;generalize hmz:(qae l).2=mz at *;have Hmz:=hid hmz;clear hmz;by_cases hz:¬mz=0
  ·have hzb:(mz !=0)=true:=by simpa using hz
   have HE:=hid ((qte (q:=q) HOK.out (by rw[Hmz.out];exact hz)).trans (by rw[Hmz.out]));clear hz;have d0:=zjc g 0 HRG4.out;have d1:=zjc g 1 HRG4.out;have d2:=zjc g 2 HRG4.out;have d3:=zjc g 3 HRG4.out;have d4:=zjc g 4 HRG4.out;have d5:=zjc g 5 HRG4.out;have d6:=zjc g 6 HRG4.out;have d7:=zjc g 7 HRG4.out;have d8:=zjc g 8 HRG4.out;have d9:=zjc g 9 HRG4.out;have e0:=zjc s 0 HRS4.out;have e1:=zjc s 1 HRS4.out;have e2:=zjc s 2 HRS4.out;have zzr:=fun k=>zjc (g+1) k HR14.out;have fw4:∀o,w4.frozen? ⟨g+1,o,none⟩=false:=fun o=>by simp[World.frozen?,HR14.out]
   have hl:=qpu HR14.out (.slice A2 n c2) (.slice none 0 0) (.slice none 0 0);have hP:=qy4.set (q:=q) (w:=w) HE.out HR14.out (by rw[HG.out];omega) (by rw[HG.out];exact HB4.out) (by rw[HG.out];exact HO4.out) (by rw[HG.out];exact (JS.Own.nil _ _)) (by rw[HG.out];exact (JB.Own.nil _ _));go_wp2_with fail
   exact zlf (v:=.tuple #[.agg #[.slice A2 n c2,.slice none 0 0,.slice none 0 0],.int .i64 mz]) (by simp[results,results27,asAddr,hl]) rfl hP
  have hz0:=Decidable.not_not.1 hz;have hzb:(mz !=0)=false:=by rw[hz0];rfl
  have Hm0:=hid (Hmz.out.trans hz0);have Hmz0:=hid hz0;clear hz hz0 Hmz
 ·have HE:=hid (qzw (q:=q) Hm0.out HO.out);have hmsl:ms.length<=300:=by have h1:=congrArg List.length Hcm.out;rw[zlB,zlB] at h1;have:=HB.out.n;omega
  obtain⟨_,_,e1,hrm,_⟩:=Hom.out.reads;injection e1 with e11 _ e13;subst e11 e13
  have hrd:RdM w4 w4.heap.size Am km ms:=qdn hrm fun x hx=>by
   obtain⟨_,_,e,hr,_⟩:=(Hdm.out x hx).reads;injection e with e _;subst e;exact⟨hr,hsm x hx⟩
  have hkm:km<=300:=by rw[<-hrd.1];exact hmsl
  have HL:=hid fun (W:World) (hW:Below w4.heap.size w4 W)=>JE.Qew w4.heap.size Am km cm ms W (hrd.below hW) hW.size (by omega);have Hnm:=hid (qti Hcm.out q.nm).2.2;have hbd:Below w4.heap.size w4 w4.drew:=(Below.refl _ _).drew;have HBd:=hid hbd;clear hrm hrd Hom Hdm hsm;have d0:=zjc g 0 HRG4.out;go_wp2_with fail
  clear d0;have hS:(fun W=>W.heap[s]?=some (.cells #[.slice A2 n c2,.slice none 0 0,.slice none 0 0] 70 (0,0))) w4.drew:=(hbd.block s (by omega)).trans HRS4.out;refine Ord.qaf.begin (fun W=>W.heap[s]?=some (.cells #[.slice A2 n c2,.slice none 0 0,.slice none 0 0] 70 (0,0))) 60 (by kernel_rfl) ?_;generalize w4.drew=wd at *;refine zjV 0 64 hS ?_;refine zjV 1 65 hS ?_ (x:=.slice A2 n c2) (hy:=by intro v hv;have z0:=zlc _ s 0 _ _ _ hv;have z1:=zlc _ s 1 _ _ _ hv;have z2:=zlc _ s 2 _ _ _ hv;clear HE Hnm HL HB HQ Hr HO4 HB4 HRG4 HR14 HRS4 Hcm Hm0 HBd HOK Hmz0;go_simp;first|done|rfl);refine zjV 2 66 hS ?_;refine Ord.qaf.step 3 (by kernel_rfl) rfl (fun C hC=>?_);go_simp;go_at_call 38;refine (HL.out _ HBd.out).mono ?_;rintro e w5 ⟨Bn,kn,dn,rfl,on,b5⟩;have b45:=HBd.out.trans (b5.mono HBd.out.size);have hS:(fun W=>W.heap[s]?=some (.cells #[.slice A2 n c2,.slice none 0 0,.slice none 0 0] 70 (0,0))) w5:=(b45.block s (by omega)).trans HRS4.out;have HR15:=hid ((b45.block (g+1) (by omega)).trans HR14.out);have HB5:=hid (HB4.out.trans (b45.mono (by omega)));have HO5:=hid (HO4.out.below b45);have HN5:=hid (on.more (show g<=wd.heap.size by have:=HBd.out.size;omega));clear on b5 b45;go_wp2_with fail
  refine hC.out _ _ (fun _=>hS) ?_;clear hC C;try simp only[zjA]
  refine Ord.qaf.step 4 (by kernel_rfl) rfl (fun C hC=>?_);go_simp;refine hC.out _ _ (fun _=>hS) ?_;clear hC C;try simp only[zjA]
  have zzr:=fun k=>zjc (g+1) k HR15.out;have fw5:∀o,w5.frozen? ⟨g+1,o,none⟩=false:=fun o=>by simp[World.frozen?,HR15.out]
  rw[Hnm.out] at HN5;have hS3:(fun W=>W.heap[s]?=some (.cells #[.slice A2 n c2,.slice none 0 0,.slice none 0 0] 70 (0,0))) (((w5.setCell ⟨g+1,0,none⟩ (.slice A2 n c2)).setCell ⟨g+1,1,none⟩ (.slice Bn kn dn)).setCell ⟨g+1,2,none⟩ (.slice none 0 0)):=(qi7 _ _ _ s (by omega)).trans hS;have hl:=qpu HR15.out (.slice A2 n c2) (.slice Bn kn dn) (.slice none 0 0);have hP:=hid (qy4.set (q:=q) (w:=w) HE.out HR15.out (by rw[HG.out];omega) (by rw[HG.out];exact HB5.out) (by rw[HG.out];exact HO5.out) (by rw[HG.out];exact HN5.out) (by rw[HG.out];exact (JB.Own.nil _ _)));refine Ord.qaf.step 5 (by kernel_rfl) rfl (fun C hC=>?_);go_simp;refine hC.out _ _ (fun _=>hS3) ?_;clear hC C;try simp only[zjA]
  have hS:=hS3;refine Ord.qaf.step 6 (by kernel_rfl) rfl (fun C hC=>?_);go_simp;refine hC.out _ _ (fun _=>hS) ?_;clear hC C;try simp only[zjA]
  refine Ord.qaf.done (by kernel_rfl) ?_ _;go_wp2_with fail
  exact zlf (v:=.tuple #[.agg #[.slice A2 n c2,.slice Bn kn dn,.slice none 0 0],.int .i64 0]) (by simp[results,results27,asAddr,hl]) rfl hP.out
 ·have HE0:=hid (qw1 (q:=q) Hm0.out HO.out);have hmsl:ms.length<=199:=by have h1:=congrArg List.length Hcm.out;rw[zlB,zlB] at h1;have:=HB.out.n;omega
  have hmo:=qy5 Hcm.out HB.out.ok;obtain⟨_,_,e1,hrm,_⟩:=Hom.out.reads;injection e1 with e11 _ e13;subst e11 e13
  have hrd:RdM w4 w4.heap.size Am km ms:=qdn hrm fun x hx=>by
   obtain⟨_,_,e,hr,_⟩:=(Hdm.out x hx).reads;injection e with e _;subst e;exact⟨hr,hsm x hx⟩
  have hkm:km<=199:=by rw[<-hrd.1];exact hmsl
  have HF:=hid (JE.qi4 w4.heap.size Am km cm ms q.nm w4 hrd zjn (by omega));have Hrd:=hid hrd;have Hx:=hid (qti Hcm.out q.nm);clear hrm hrd hmo;have d0:=zjc g 0 HRG4.out;have d7:=zjc g 7 HRG4.out;go_wp2_with fail
  refine HF.out.mono ?_;rintro e w5 ⟨rfl,b5⟩;have HB5:=hid (HB4.out.trans (b5.mono (by omega)));have HO5:=hid (HO4.out.below b5);have HR15:=hid ((b5.block (g+1) (by omega)).trans HR14.out);have HRS5:=hid ((b5.block s (by omega)).trans HRS4.out);have Hrd5:=hid (Hrd.out.below b5);have Hd5:=hid fun (x:Mem) (hx:x∈ms)=>((Hdm.out x hx).below b5).more (show g<=w3.heap.size by omega);have s45:=b5.size;have Hbk:Hid (∀b o,Am=some ⟨b,o,none⟩->w3.heap.size<=b):=hid (fun b o e=>by rcases Hom.out.2 with ⟨q1,_⟩|⟨gg,cap,cur,m,hv,hgg,_⟩;(injection q1 with q1;rw[q1] at e;cases e);(injection hv with hv;rw[hv] at e;injection e with e;injection e with e;omega));clear HF d0 d7 b5 HB4 HO4 HR14 HRS4 Hrd Hom HRG4
  cases hf:qar ms q.nm with
  |none=>
   have hfi:qaz ms q.nm= -1:=by unfold qaz;rw[hf]
   have HE:Hid (qbs l q=(l,[],[],10)):=hid (by rw[HE0.out,<-Hx.out.1,<-Hx.out.2.1];unfold qmr qh6;rw[hf]);rw[hfi];clear hf hfi HE0 Hx;have e0:=zjc s 0 HRS5.out;have e1:=zjc s 1 HRS5.out;have e2:=zjc s 2 HRS5.out;have zzr:=fun k=>zjc (g+1) k HR15.out;have fw5:∀o,w5.frozen? ⟨g+1,o,none⟩=false:=fun o=>by simp[World.frozen?,HR15.out]
   have hl:=qpu HR15.out (.slice A2 n c2) (.slice none 0 0) (.slice none 0 0);have hP:=qy4.set (q:=q) (w:=w) HE.out HR15.out (by rw[HG.out];omega) (by rw[HG.out];exact HB5.out) (by rw[HG.out];exact HO5.out) (by rw[HG.out];exact (JS.Own.nil _ _)) (by rw[HG.out];exact (JB.Own.nil _ _));go_wp2_with fail
   exact zlf (v:=.tuple #[.agg #[.slice A2 n c2,.slice none 0 0,.slice none 0 0],.int .i64 10]) (by simp[results,results27,asAddr,hl]) rfl hP
  |some i=>
   have hfi:qaz ms q.nm=(i:Int):=by unfold qaz;rw[hf]
   have hix:=(qb6 hf).1;have HE:Hid (qbs l q=(l,[],ms[i].data,0)):=hid (by rw[HE0.out,<-Hx.out.1,<-Hx.out.2.1];unfold qmr qh6;rw[hf];show (_,_,((ms[i]?).map (·.data)).getD [],_)=_;rw[zlh hix];rfl);rw[hfi];have hil:i<km:=by have:=Hrd5.out.1;omega
   have hii:(i:Int)<(km:Int):=by omega
   have hi0:¬(i:Int)<0:=by omega
   have hOd:=Hd5.out ms[i] (zlq hix);obtain⟨⟨b,o,hA,hbK,hcell⟩,_,_⟩:=Hrd5.out.2 i hix;have hbk:=Hbk.out b o hA;subst hA;clear hf hfi HE0 Hx Hrd5 Hd5;generalize ms[i]=x at *;obtain⟨x0,x1,x2,x3,x4,x5,x6,x7,x8⟩:=x;obtain⟨p0,p1,p2,p3,p4,p5⟩:=hcell;simp only at HE hOd p5;have HOd:=hid hOd;have hbd:Below w5.heap.size w5 w5.drew:=(Below.refl _ _).drew;have HBd:=hid hbd;have P5:=hid p5;clear p0 p1 p2 p3 p4 hOd p5;go_wp2_with fail
   have hS:(fun W=>W.heap[s]?=some (.cells #[.slice A2 n c2,.slice none 0 0,.slice none 0 0] 70 (0,0))/\W.cell? ⟨b,o+i * 6+5,none⟩=some (.slice x5 x6 x7)) w5.drew:=⟨(hbd.block s (by omega)).trans HRS5.out,(hbd.cell (p:=⟨b,o+i * 6+5,none⟩) (show b<w5.heap.size by omega)).trans P5.out⟩;refine Ord.qaf.begin (fun W=>W.heap[s]?=some (.cells #[.slice A2 n c2,.slice none 0 0,.slice none 0 0] 70 (0,0))/\W.cell? ⟨b,o+i * 6+5,none⟩=some (.slice x5 x6 x7)) 60 (by kernel_rfl) ?_;have HRd:=hid ((hbd.block (g+1) (by omega)).trans HR15.out);have HBD:=hid (HB5.out.trans (hbd.mono (by omega)));have HOD:=hid (HO5.out.below hbd);have HOX:=hid (HOd.out.below hbd);generalize w5.drew=wd at *;refine zjV 0 79 hS ?_;refine zjV 1 80 hS ?_ (x:=.slice A2 n c2) (hy:=by intro v hv;obtain⟨hv0,hv1⟩:=hv;have z0:=zlc _ s 0 _ _ _ hv0;have z1:=zlc _ s 1 _ _ _ hv0;have z2:=zlc _ s 2 _ _ _ hv0;clear HE HB HQ Hr HO5 HB5 HR15 HRS5 Hcm Hm0 HBd HOK Hmz0 HRd HBD HOD HOX HOd P5 Hbk;go_simp;first|done|rfl);refine zjV 2 81 hS ?_;refine zjV 3 82 hS ?_;refine zjV 4 83 hS ?_ (x:=.pointer (some ⟨b,o+i * 6,none⟩)) (hy:=by intro v hv;clear HE HB HQ Hr HO5 HB5 HR15 HRS5 Hcm Hm0 HBd HOK Hmz0 HRd HBD HOD HOX HOd P5 Hbk;go_simp;first|done|rfl);refine zjV 5 84 hS ?_;refine zjV 6 85 hS ?_ (x:=.slice x5 x6 x7) (hy:=by intro v hv;obtain⟨hv0,hv1⟩:=hv;clear HE HB HQ Hr HO5 HB5 HR15 HRS5 Hcm Hm0 HBd HOK Hmz0 HRd HBD HOD HOX HOd P5 Hbk;go_simp;first|done|rfl);refine Ord.qaf.step 7 (by kernel_rfl) rfl (fun C hC=>?_);go_simp;refine hC.out _ _ (fun _=>hS) ?_;clear hC C;try simp only[zjA]
   have zzr:=fun k=>zjc (g+1) k HRd.out;have fwd:∀o,wd.frozen? ⟨g+1,o,none⟩=false:=fun o=>by simp[World.frozen?,HRd.out]
   have hS3:(fun W=>W.heap[s]?=some (.cells #[.slice A2 n c2,.slice none 0 0,.slice none 0 0] 70 (0,0))/\W.cell? ⟨b,o+i * 6+5,none⟩=some (.slice x5 x6 x7)) (((wd.setCell ⟨g+1,0,none⟩ (.slice A2 n c2)).setCell ⟨g+1,1,none⟩ (.slice none 0 0)).setCell ⟨g+1,2,none⟩ (.slice x5 x6 x7)):=⟨(qi7 _ _ _ s (by omega)).trans hS.1,by have e:=qi7 (W:=wd) (B:=g+1) (.slice A2 n c2) (.slice none 0 0) (.slice x5 x6 x7) b (by omega);exact (World.cell?_of_block (w:=wd) (a:=⟨b,o+i * 6+5,none⟩) e).trans hS.2⟩;have hl:=qpu HRd.out (.slice A2 n c2) (.slice none 0 0) (.slice x5 x6 x7);have hP:=hid (qy4.set (q:=q) (w:=w) HE.out HRd.out (by rw[HG.out];omega) (by rw[HG.out];exact HBD.out) (by rw[HG.out];exact HOD.out) (JS.Own.nil _ _) (by rw[HG.out];exact HOX.out));refine Ord.qaf.step 8 (by kernel_rfl) rfl (fun C hC=>?_);go_simp;refine hC.out _ _ (fun _=>hS3) ?_;clear hC C;try simp only[zjA]
   have hS:=hS3;refine Ord.qaf.step 9 (by kernel_rfl) rfl (fun C hC=>?_);go_simp;refine hC.out _ _ (fun _=>hS) ?_;clear hC C;try simp only[zjA]
   refine Ord.qaf.done (by kernel_rfl) ?_ _;go_wp2_with fail
   exact zlf (v:=.tuple #[.agg #[.slice A2 n c2,.slice none 0 0,.slice x5 x6 x7],.int .i64 0]) (by simp[results,results27,asAddr,hl]) rfl hP.out
 all_goals
  have hmsl:ms.length<=199:=by have h1:=congrArg List.length Hcm.out;rw[zlB,zlB] at h1;have:=HB.out.n;omega
  have hmo:=qy5 Hcm.out HB.out.ok;obtain⟨_,_,e1,hrm,_⟩:=Hom.out.reads;injection e1 with e11 _ e13;subst e11 e13
  have hrd:RdM w4 w4.heap.size Am km ms:=qdn hrm fun x hx=>by
   obtain⟨_,_,e,hr,_⟩:=(Hdm.out x hx).reads;injection e with e _;subst e;exact⟨hr,hsm x hx⟩
  have hkm:km<=199:=by rw[<-hrd.1];exact hmsl
  have HC:=hid (Qa1 Hcm.out q);have hfew:Few (edC ms q).1:=Qfj hmsl (by rw[Qfk Hcm.out];exact HB.out.all) hmo (dl_cong Hcm.out HB.out.dl) HQ.out.ok HQ.out.dl HQ.out.l5;have Hfew:=hid hfew;have HQ4:qef w4 w4.heap.size q:=(HQ.out.on (by rw[HG.out];exact HB4.out)).more (by rw[HG.out];omega) zjn;have HEd:=hid (Qfh w4.heap.size Am km cm ms q w4 hrd zjn hmo (by omega) HQ4);unfold Cmd.val Cmd.cells at HEd;have hch:qtf q.op:=by unfold qtf;rw[HO.out];decide
  have HEed':=hid (qpz Hm0.out hch);have HEfit':=hid (qtg Hm0.out hch);have HEok':=hid (qth Hm0.out hch);clear hrm hrd hmo hfew HQ4 hch;have d0:=zjc g 0 HRG4.out;have d1:=zjc g 1 HRG4.out;have d2:=zjc g 2 HRG4.out;have d3:=zjc g 3 HRG4.out;have d4:=zjc g 4 HRG4.out;have d5:=zjc g 5 HRG4.out;have d6:=zjc g 6 HRG4.out;have d7:=zjc g 7 HRG4.out;have d8:=zjc g 8 HRG4.out;have d9:=zjc g 9 HRG4.out;go_wp2_with fail
  refine HEd.out.mono ?_;rintro e w5 hC5;obtain⟨A5,n5,c5,ys,rfl,harg,hcy,hn5,b5⟩:=hC5.arg Hfew.out.ok (by have:=Hfew.out.n;omega);have HB5:=hid (HB4.out.trans (b5.mono (by omega)));have HO5:=hid (HO4.out.below b5);have HR15:=hid ((b5.block (g+1) (by omega)).trans HR14.out);have HRS5:=hid ((b5.block s (by omega)).trans HRS4.out);have s45:=b5.size;have Hcy:=hid (hcy.trans HC.out.1);have Hz:=hid HC.out.2;have Hfy:=hid (Hfew.out.core hcy);have Harg:=hid harg;clear HEd hC5 hcy harg b5 HC HB4 HO4 HR14 HRS4 HRG4 Hom Hdm hsm hn5 d0 d1 d2 d3 d4 d5 d6 d7 d8 d9;generalize hz5:(edC ms q).2=z5 at *;have Hz5:=hid hz5;clear hz5;by_cases hy:¬z5=0
  ·have hyb:(z5 !=0)=true:=by simpa using hy
   have HE:Hid (qbs l q=(l,[],[],z5)):=hid (by rw[HEed'.out (by rw[<-Hz.out];exact hy),<-Hz.out]);clear hy HEed' HEfit' HEok';have e0:=zjc s 0 HRS5.out;have e1:=zjc s 1 HRS5.out;have e2:=zjc s 2 HRS5.out;have zzr:=fun k=>zjc (g+1) k HR15.out;have fw5:∀o,w5.frozen? ⟨g+1,o,none⟩=false:=fun o=>by simp[World.frozen?,HR15.out]
   have hl:=qpu HR15.out (.slice A2 n c2) (.slice none 0 0) (.slice none 0 0);have hP:=qy4.set (q:=q) (w:=w) HE.out HR15.out (by rw[HG.out];omega) (by rw[HG.out];exact HB5.out) (by rw[HG.out];exact HO5.out) (by rw[HG.out];exact (JS.Own.nil _ _)) (by rw[HG.out];exact (JB.Own.nil _ _));go_wp2_with fail
   exact zlf (v:=.tuple #[.agg #[.slice A2 n c2,.slice none 0 0,.slice none 0 0],.int .i64 z5]) (by simp[results,results27,asAddr,hl]) rfl hP
  have hy0:=Decidable.not_not.1 hy;have hyb:(z5 !=0)=false:=by rw[hy0];rfl
  have HEf2:=hid (HEfit'.out (by rw[<-Hz.out];exact hy0));have HEo2:=hid (HEok'.out (by rw[<-Hz.out];exact hy0));have HSO:=hid (Six.qzi Hcy.out);have HRC:=hid (Six.qt9 _ A5 n5 c5 ys w5 Harg.out.rd Harg.out.hK Hfy.out fun x hx=>(Harg.out.cap x hx).1);clear hy hy0 HEed' HEfit' HEok';go_wp2_with fail
  refine HRC.out.mono ?_;rintro e w6 ⟨v6,A1,n1,c1,A7,n7,c7,rfl,ho6,_,_,b6⟩;obtain⟨A6,c6,rfl,_⟩:=ho6.reads;have HB6:=hid (HB5.out.trans (b6.mono (by omega)));have HO6:=hid (HO5.out.below b6);have HA6:=hid (ho6.more (show g<=w5.heap.size by omega));have HR16:=hid ((b6.block (g+1) (by omega)).trans HR15.out);have HRS6:=hid ((b6.block s (by omega)).trans HRS5.out);clear HRC ho6 b6 HB5 HO5 HR15 HRS5 Harg;rw[HSO.out.2.2.2];generalize hz6:(qbe 0 (edC (qae l).1 q).1).2=z6 at *;have Hz6:=hid hz6;clear hz6;by_cases hx:¬z6=0
  ·have hxb:(z6 !=0)=true:=by simpa using hx
   have HE:=hid (HEf2.out hx);clear hx HEf2 HEo2;have e0:=zjc s 0 HRS6.out;have e1:=zjc s 1 HRS6.out;have e2:=zjc s 2 HRS6.out;have zzr:=fun k=>zjc (g+1) k HR16.out;have fw6:∀o,w6.frozen? ⟨g+1,o,none⟩=false:=fun o=>by simp[World.frozen?,HR16.out]
   have hl:=qpu HR16.out (.slice A2 n c2) (.slice none 0 0) (.slice none 0 0);have hP:=qy4.set (q:=q) (w:=w) HE.out HR16.out (by rw[HG.out];omega) (by rw[HG.out];exact HB6.out) (by rw[HG.out];exact HO6.out) (by rw[HG.out];exact (JS.Own.nil _ _)) (by rw[HG.out];exact (JB.Own.nil _ _));go_wp2_with fail
   exact zlf (v:=.tuple #[.agg #[.slice A2 n c2,.slice none 0 0,.slice none 0 0],.int .i64 z6]) (by simp[results,results27,asAddr,hl]) rfl hP
  have hx0:=Decidable.not_not.1 hx;have hxb:(z6 !=0)=false:=by rw[hx0];rfl
  have HE:=hid (HEo2.out hx0);rw[HSO.out.1] at HA6 |-;clear hx hx0 HEf2 HEo2;generalize qfv (edC (qae l).1 q).1=lo at *;have e0:=zjc s 0 HRS6.out;have e1:=zjc s 1 HRS6.out;have e2:=zjc s 2 HRS6.out;have zzr:=fun k=>zjc (g+1) k HR16.out;have fw6:∀o,w6.frozen? ⟨g+1,o,none⟩=false:=fun o=>by simp[World.frozen?,HR16.out]
  have hl:=qpu HR16.out (.slice A6 lo.length c6) (.slice none 0 0) (.slice none 0 0);have hP:=qy4.set (q:=q) (w:=w) HE.out HR16.out (by rw[HG.out];omega) (by rw[HG.out];exact HB6.out) (by rw[HG.out];exact HA6.out) (by rw[HG.out];exact (JS.Own.nil _ _)) (by rw[HG.out];exact (JB.Own.nil _ _));go_wp2_with fail
  exact zlf (v:=.tuple #[.agg #[.slice A6 lo.length c6,.slice none 0 0,.slice none 0 0],.int .i64 0]) (by simp[results,results27,asAddr,hl]) rfl hP
end JL
end Go.Proofs.YtlmolmohhpdhdaaGreatDoor
