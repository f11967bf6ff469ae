/-
  armap: numbers, entries that fit,
-/
import Derived.Test.YtlmolmohhpdhdaaGreatDoorYAa
set_option maxRecDepth 100000
set_option maxHeartbeats 16000000
set_option linter.all false
namespace Go.Proofs.YtlmolmohhpdhdaaGreatDoor
open Go.RowKit Go.Proofs Tryz
namespace JA
open JB
open JS (Oth Fr blk)
theorem qhg (w:World)(K:Nat)(A:Option Addr)(n c:Nat)(l:List UInt8)(hown:JB.Own w K (.slice A n c) n l)(hK:K<=w.heap.size)(z:Nat)(hn:n<=100000000000000):
 Calls prog 172 #[.slice A n c,.int .i64 (z:Int)] w fun e w'=>∃A' c',e=.returned (.slice A' (n+4) c')/\JB.Own w' K (.slice A' (n+4) c') (n+4) (l++w4 z)/\Below K w w':=by
 have he:(#[.int .u8 ((z:Int) / 16777216%256),.int .u8 ((z:Int) / 65536%256),.int .u8 ((z:Int) / 256%256),.int .u8 ((z:Int)%256)]:Array Value)=(enc (w4 z)).toArray:=by
  simp[enc,w4,UInt8.toNat_ofNat']
 have hb0:=(Below.refl K w).alloc hK (.cells #[.int .u8 ((z:Int) / 16777216%256),.int .u8 ((z:Int) / 65536%256),.int .u8 ((z:Int) / 256%256),.int .u8 ((z:Int)%256)] 5);have Hr:=hid (Rd.lit w (w4 z) _ he 4 rfl);clear he;go_enter func172,ntmps172;go_wp2_with (at_builtin;refine qcc _ K (.slice A n c) n l (hown.alloc _) (by simp;omega) (some ⟨w.heap.size,0,none⟩) 4 4 _ (w4 z) Hr.out (by omega) rfl (.tmp 5) (.tmp 17) rfl rfl rfl ?_;intro v1 w1 h1 h2 h3;obtain⟨A1,c1,rfl,_⟩:=h1.reads)
 go_ret
 exact⟨A1,c1,rfl,h1,hb0.trans h2⟩
theorem ib_lt (l:List UInt8):Lib.indexByte l 0<0↔(0:UInt8)∉l:=by
 have hge:=Lib.indexByte_ge l 0;constructor
 ·intro h hm;have h1:Lib.indexByte l 0= -1:=by omega
  obtain⟨k,hk,e⟩:=List.mem_iff_getElem.1 hm;exact Lib.indexByte_none h1 k (by rw[zlh hk,e])
 ·intro h;rcases Int.lt_or_le (Lib.indexByte l 0) 0 with q|q
  ·exact q
  ·obtain⟨o,ho⟩:=zlA q;exact absurd (List.mem_of_getElem? (Lib.indexByte_some ho).1) h
theorem qsi (x:En)(w:World):
 Calls prog 210 #[x.val] w fun e w'=>e=.returned (.bool (qn6 x))/\Below w.heap.size w w':=by
 obtain⟨x0,x1⟩:=x;simp only[En.val] at *;have hb0:=zjB w (.cells #[.string x0,.int .i64 x1] 135);have hrow0:=zld w (.cells #[.string x0,.int .i64 x1] 135);have HE:Hid (qn6 ⟨x0,x1⟩=(qsn x0.data.toList&&(decide (0<=x1)&&decide (x1<=4294967295)))):=hid rfl;have HN:=hid (qz5 (s:=x0));have HI:=hid (ib_lt x0.data.toList);have HC:=hid fun W=>Tryz.strings_IndexByte x0 0 W;have hz:(0:Int).toNat.toUInt8=0:=rfl;rw[hz] at HC
 have HL:Hid (x0.toList=[]↔¬0<x0.size):=hid (by
  rw[ByteArray.toList_eq];have:=qe5 x0;rw[<-this,<-List.length_eq_zero_iff];omega)
 generalize qn6 ⟨x0,x1⟩=eo at *;generalize qsn x0.data.toList=no at *;generalize Lib.indexByte x0.data.toList 0=ix at *;clear hz;go_enter func210,ntmps210;have zzq:=fun k=>zjc w.heap.size k hrow0;by_cases he:x0.toList=[]
 ·have hb1:(x0.toList==[])=true:=beq_iff_eq.2 he;have hb2:(x0.toList !=[])=false:=by rw[he];rfl
  have HR:Hid (eo=false):=hid (by
   rw[HE.out];cases hq:no
   ·rfl
   ·exact absurd (HN.out.1 hq).1 (HL.out.1 he))
  clear he;go_wp2_with fail
  go_ret
  exact⟨qa1 HR.out.symm,hb0⟩
 ·have hb1:(x0.toList==[])=false:=zls.2 he;have hb2:(x0.toList !=[])=true:=by rw[bne_iff_ne];exact he
  have hpos:Hid (0<x0.size):=hid (by
   rcases Nat.lt_or_ge 0 x0.size with q|q
   ·exact q
   ·exact absurd (HL.out.2 (by omega)) he)
  clear he;go_wp2_with fail
  refine (HC.out _).mono ?_;rintro e w1 ⟨rfl,rfl⟩;by_cases hi:ix<0
  ·have hii:decide (ix<0)=true:=decide_eq_true hi;have HR:Hid (eo=(decide (0<=x1)&&decide (x1<=4294967295))):=hid (by rw[HE.out,HN.out.2 ⟨hpos.out,HI.out.1 hi⟩];rfl);clear hi;by_cases h1:0<=x1
   ·have h1i:decide ((0:Int)<=x1)=true:=decide_eq_true h1;go_wp2_with fail
    go_ret
    exact⟨qa1 (by rw[HR.out,h1i];rfl),hb0⟩
   ·have h1i:decide ((0:Int)<=x1)=false:=decide_eq_false h1;go_wp2_with fail
    go_ret
    exact⟨qa1 (by rw[HR.out,h1i];rfl),hb0⟩
  ·have hii:decide (ix<0)=false:=decide_eq_false hi
   have HR:Hid (eo=false):=hid (by
    rw[HE.out];cases hq:no
    ·rfl
    ·exact absurd (HI.out.2 (HN.out.1 hq).2) hi)
   clear hi;go_wp2_with fail
   go_ret
   exact⟨qa1 HR.out.symm,hb0⟩
theorem Qau (K:Nat)(A:Option Addr)(n c:Nat)(xs:List En)(w:World)(h:RdE w K A n xs)(hK:K<=w.heap.size)(hn:n<=1000000):
 Calls prog 171 #[.slice A n c] w fun e w'=>e=.returned (.bool (qjt xs))/\Below w.heap.size w w':=by
 have Hl:=hid h.1;have hbig:¬(4294967295:Int)<(n:Int):=by omega
 go_enter func171,ntmps171;go_wp2_with fail
 go_loopw [10] (fun i W=>∃k:Nat,i=.int .i64 (k:Int)/\k<=n/\Hid (∀j (hj:j<xs.length),j<k->qn6 xs[j]=true)/\Below w.heap.size w W) (fun i _=>n-(intOf i).toNat)
 case atStart=>exact⟨0,rfl,by omega,hid (fun j _ h=>by omega),Below.refl _ _⟩
 case round=>
  obtain⟨k,rfl,hk,hG,hb⟩:=hrel;by_cases hlt:k<n
  ·have hkl:k<xs.length:=by have:=Hl.out;omega
   have hki:(k:Int)<(n:Int):=by omega
   obtain⟨b,o,rfl,hbK,hcell⟩:=(h.below (hb.mono hK)).2 k hkl
   have HF:Hid (qn6 xs[k]=false->qjt xs=false):=hid fun q=>by
    cases hf:qjt xs
    ·rfl
    ·have:=qbg.1 hf xs[k] (zlq hkl);rw[q] at this;cases this
   have HG2:Hid (qn6 xs[k]=true->∀j (hj:j<xs.length),j<k+1->qn6 xs[j]=true):=hid fun q j hj hjk=>by
    by_cases e:j=k
    ·subst e;exact q
    ·exact hG.out j hj (by omega)
   generalize xs[k]=x at *;have Hf:=hid fun W=>qsi x W;generalize qn6 x=eo at *;obtain⟨x0,x1⟩:=x;obtain⟨p0,p1⟩:=hcell;simp only[En.val] at *;have hba:=hb.alloc hb.size (.cells #[.string x0,.int .i64 x1] 135);go_wp2_with fail
   refine (Hf.out _).mono ?_;rintro e w2 ⟨rfl,hb2⟩;have hb02:=hba.trans (hb2.mono hba.size);clear hba hb2 p0 p1;cases eo
   ·have HR:=hid (HF.out rfl);go_wp2_with fail
    go_ret
    exact⟨qa1 HR.out.symm,hb02⟩
   ·have HR:=hid (HG2.out rfl);go_wp2_with fail
    go_roundw
    ·exact⟨k+1,by go_num,by omega,HR,hb02⟩
    ·simp[intOf];omega
  ·obtain rfl:k=n:=by omega
   have HFit:Hid (qjt xs=true):=hid (qbg.2 fun x hx=>by
    obtain⟨j,hj,rfl⟩:=List.mem_iff_getElem.1 hx;exact hG.out j hj (by have:=Hl.out;omega))
   go_wp2_with fail
   go_ret
   exact⟨qa1 HFit.out.symm,hb⟩
def szS (ns:List ByteArray):Nat:=4+(ns.map fun s=>s.size+5).sum
theorem Qda (xs:List En):szS (xs.map (·.name))=(qei xs).length:=by
 rw[qjf];unfold szS szN qdu
 induction xs with
 |nil=>rfl
 |cons x r ih=>
  have:=qe5 x.name;simp only[List.map_cons,List.sum_cons,zlk] at ih |-;omega
theorem szS_take {ns:List ByteArray}{k:Nat}(hk:k<ns.length):szS (ns.take (k+1))=szS (ns.take k)+(ns[k].size+5):=by
 rw[zlg hk];unfold szS;rw[List.map_append,List.sum_append];simp;omega
theorem szS_le {m:Nat}:∀{l:List ByteArray},(∀s∈l,s.size<=m)->szS l<=4+l.length * (m+5)
 |[],_=>by simp[szS]
 |s::r,h=>by
  have h1:=szS_le (l:=r) fun t ht=>h t (List.mem_cons_of_mem _ ht);have h2:=h s List.mem_cons_self;have e:szS (s::r)=(s.size+5)+szS r:=by simp[szS];omega
  rw[e,zlk,Nat.succ_mul];omega
def qmk (ns:List ByteArray):List Value:=ns.map .string
theorem size_any (K:Nat)(A:Option Addr)(n c:Nat)(ns:List ByteArray)(w:World)(h:JC.Rd w K A n 1 (qmk ns))(hn:n<=3000)(hs:∀s∈ns,s.size<=1000):
 Calls prog 125 #[.slice A n c] w fun e w'=>e=.returned (.int .i64 (szS ns:Int))/\w'=w:=by
 have hl:ns.length=n:=by have:=h.1;simp[qmk] at this;omega
 have Hl:=hid hl
 have HS:Hid (∀j,j<=n->szS (ns.take j)<=4000000):=hid fun j hj=>by
  have:=szS_le (m:=1000) (l:=ns.take j) fun s hs'=>hs s (List.mem_of_mem_take hs');have h2:(ns.take j).length<=j:=by rw[zlu];omega
  have h3:(ns.take j).length * (1000+5)<=3000 * (1000+5):=Nat.mul_le_mul_right _ (by omega);omega
 clear hl;go_enter func125,ntmps125;go_wp2_with fail
 go_loopw [3,8] (fun v i W=>∃k z:Nat,i=.int .i64 (k:Int)/\k<=n/\v=.int .i64 (z:Int)/\Hid (z=szS (ns.take k))/\Hid (W=w)) (fun _ i _=>n-(intOf i).toNat)
 case atStart=>exact⟨0,4,rfl,by omega,rfl,hid rfl,hid rfl⟩
 case round=>
  obtain⟨k,z,rfl,hk,rfl,hz,hw⟩:=hrel;have hw':=hw.out;subst hw';have hzb:z<=4000000:=by rw[hz.out];exact HS.out k hk
  by_cases hlt:k<n
  ·have hkl:k<ns.length:=by have:=Hl.out;omega
   have hki:(k:Int)<(n:Int):=by omega
   obtain⟨b,o,rfl,hbK,hc⟩:=h.2 (k:Nat) (by simp[qmk];exact hkl);have hc':wr.cell? ⟨b,o+k,none⟩=some (.string ns[k]):=by rw[hc];simp[qmk]
   have hsz:=hs _ (zlq hkl);have HT:=hid (szS_take hkl);clear hc;generalize ns[k]=s at *;go_wp2_with fail
   go_roundw
   ·exact⟨k+1,z+(s.size+5),by go_num,by omega,by go_num,hid (by rw[HT.out,hz.out]),hid trivial⟩
   ·simp[intOf];omega
  ·obtain rfl:k=n:=by omega
   have HR:Hid ((z:Int)=(szS ns:Int)):=hid (by rw[hz.out,zlj (by have:=Hl.out;omega)]);go_wp2_with fail
   go_ret
   exact⟨qyi HR.out,rfl⟩
theorem encA_any (K:Nat)(A:Option Addr)(n c:Nat)(xs:List En)(w:World)(h:RdE w K A n xs)(hK:K<=w.heap.size)(hn:n<=100000)(hs:∀x∈xs,x.name.size<=100000):
 Calls prog 127 #[.slice A n c] w (qk0 xs w):=by
 have Hl:=hid h.1;go_enter func127,ntmps127;go_wp2_with fail
 refine (Qau K A n c xs w h hK (by omega)).mono ?_;rintro e w0 ⟨rfl,hb0⟩;cases hfit:qjt xs
 ·go_wp2_with fail
  go_ret2
  exact qk0.bad hfit hb0
 have HFit:=hid hfit;have HO:Hid (∀x∈xs,0<=x.off/\x.off<=4294967295):=hid fun x hx=>(qbz.1 (qbg.1 hfit x hx)).2;clear hfit;go_wp2_with fail
 refine (qhg w0 w.heap.size none 0 0 [] (JB.Own.nil _ _) hb0.size n (by omega)).mono ?_;rintro e w1 ⟨A1,c1,rfl,o1,hb1⟩;rw[zlI] at o1;have hb01:=hb0.trans hb1;clear hb0 hb1;go_wp2_with fail
 go_loopw [17,4] (fun i v W=>∃(k:Nat)(A2:Option Addr)(c2:Nat),i=.int .i64 (k:Int)/\v=.slice A2 (4+4 * k) c2/\k<=n/\JB.Own W w.heap.size (.slice A2 (4+4 * k) c2) (4+4 * k) (w4 n++qfs (xs.take k))/\Below w.heap.size w W) (fun i _ _=>n-(intOf i).toNat)
 case atStart=>exact⟨0,A1,c1,rfl,rfl,by omega,by simpa [qfs] using o1,hb01⟩
 case round=>
  obtain⟨k,A2,c2,rfl,rfl,hk,hO,hb⟩:=hrel;by_cases hlt:k<n
  ·have hkl:k<xs.length:=by have:=Hl.out;omega
   have hki:(k:Int)<(n:Int):=by omega
   obtain⟨b,o,rfl,hbK,hcell⟩:=(h.below (hb.mono hK)).2 k hkl
   have HT:Hid (qfs (xs.take (k+1))=qfs (xs.take k)++w4 xs[k].off.toNat):=hid (by
    rw[zlg hkl,qje];show _++(w4 xs[k].off.toNat++[])=_
    rw[zlJ])
   obtain⟨z0,z1⟩:=HO.out xs[k] (zlq hkl);generalize xs[k]=x at *;obtain⟨x0,x1⟩:=x;obtain⟨p0,p1⟩:=hcell;simp only at *;obtain⟨z,rfl⟩:=zlA z0;have HA:=hid (qhg (wr.alloc (.cells #[.string x0,.int .i64 (z:Int)] 135)) w.heap.size A2 (4+4 * k) c2 _ (hO.alloc _) (by have:=hb.size;simp;omega) z (by omega));have hba:=hb.alloc hb.size (.cells #[.string x0,.int .i64 (z:Int)] 135);clear hO hb z0 z1;go_wp2_with fail
   refine HA.out.mono ?_;rintro e w3 ⟨A3,c3,rfl,o3,hb3⟩;have hb03:=hba.trans hb3
   have o3':JB.Own w3 w.heap.size (.slice A3 (4+4 * k+4) c3) (4+4 * k+4) (w4 n++qfs (xs.take (k+1))):=by
    rw[HT.out,<-zln];exact o3
   clear o3 hb3 hba HA p0 p1;go_wp2_with fail
   go_roundw
   ·exact⟨k+1,A3,c3,by go_num,by rw[show 4+4 * (k+1)=4+4 * k+4 by omega],by omega,by rw[show 4+4 * (k+1)=4+4 * k+4 by omega];exact o3',hb03⟩
   ·simp[intOf];omega
  ·obtain rfl:k=n:=by omega
   have hT:xs.take k=xs:=zlj (by have:=Hl.out;omega);rw[hT] at hO
   have HS:Hid (∀j,j<=k->szN (qdu (xs.take j))<=100000000000):=hid fun j hj=>by
    have:=Qd9 (m:=100000) (l:=qdu (xs.take j)) fun s hs'=>by
     obtain⟨x,hx,rfl⟩:=List.mem_map.1 hs';rw[qe5];exact hs x (List.mem_of_mem_take hx)
    have h2:(qdu (xs.take j)).length<=j:=by rw[qjg,zlu];omega
    have h3:(qdu (xs.take j)).length * (100000+1)<=100000 * (100000+1):=Nat.mul_le_mul_right _ (by omega);omega
   have hbn:=hb;clear hb;go_wp2_with fail
   go_loopw [28,4] (fun i v W=>∃(j:Nat)(A5:Option Addr)(c5:Nat),i=.int .i64 (j:Int)/\v=.slice A5 (4+4 * k+szN (qdu (xs.take j))) c5/\j<=k/\JB.Own W w.heap.size (.slice A5 (4+4 * k+szN (qdu (xs.take j))) c5) (4+4 * k+szN (qdu (xs.take j))) (w4 k++qfs xs++qjz (qdu (xs.take j)))/\Below w.heap.size w W) (fun i _ _=>k-(intOf i).toNat)
   case atStart=>exact⟨0,A2,c2,rfl,by simp[szN,qdu],by omega,by simpa [szN,qdu,qjz] using hO,hbn⟩
   case round=>
    obtain⟨j,A5,c5,rfl,rfl,hj,hO,hb⟩:=hrel;by_cases hlt:j<k
    ·have hkl:j<xs.length:=by have:=Hl.out;omega
     have hki:(j:Int)<(k:Int):=by omega
     obtain⟨b,o,rfl,hbK,hcell⟩:=(h.below (hb.mono hK)).2 j hkl;have hsz:=hs xs[j] (zlq hkl);have HZ:=hid (qz6 hkl)
     have HT:Hid (qjz (qdu (xs.take (j+1)))=qjz (qdu (xs.take j))++(xs[j].name.data.toList++[0])):=hid (by
      rw[zlg hkl];unfold qdu;rw[List.map_append,qnz];simp[qjz])
     have hz:=HS.out j hj;have hz2:=HS.out (j+1) (by omega);generalize xs[j]=x at *;obtain⟨x0,x1⟩:=x;obtain⟨p0,p1⟩:=hcell;simp only at *;obtain⟨zk,hzk⟩:∃zk,4+4 * k+szN (qdu (xs.take j))=zk:=⟨_,rfl⟩;have HZ2:Hid (4+4 * k+szN (qdu (xs.take (j+1)))=zk+x0.size+1):=hid (by rw[HZ.out,<-hzk];omega);rw[hzk] at hO |-;have hzb:zk<=200000000000:=by omega
     have hba:=hb.alloc hb.size (.cells #[.string x0,.int .i64 x1] 135);have hOa:=hO.alloc (.cells #[.string x0,.int .i64 x1] 135);clear hzk hz hz2 hO hb
     go_wp2_with (first
      |(at_builtin;refine qe8 (wr.alloc (.cells #[.string x0,.int .i64 x1] 135)) w.heap.size _ zk _ hOa hba.size x0 (by omega) rfl (.tmp 32) (.tmp 34) rfl rfl rfl ?_;intro v6 w6 ho6 hb6 _;obtain⟨A6,c6,rfl,_⟩:=ho6.reads;have hb06:=hba.trans hb6)
      |(at_builtin;refine qmj w6 w.heap.size _ (zk+x0.size) _ 0 _ rfl ho6 hb06.size (by omega) rfl (.tmp 36) (.tmp 37) rfl rfl rfl ?_;intro v7 w7 ho7 hb7 _;obtain⟨A7,c7,rfl,_⟩:=ho7.reads)
      |fail)
     have ho7':JB.Own w7 w.heap.size (.slice A7 (zk+x0.size+1) c7) (zk+x0.size+1) (w4 k++qfs xs++qjz (qdu (xs.take (j+1)))):=by
      rw[HT.out,<-zln,<-zln];exact ho7
     have hb07:=hb06.trans hb7;clear ho7 hb7 ho6 hb6 hb06 hOa hba p0 p1;go_roundw
     ·exact⟨j+1,A7,c7,by go_num,by rw[HZ2.out],by omega,by rw[HZ2.out];exact ho7',hb07⟩
     ·simp[intOf];omega
    ·obtain rfl:j=k:=by omega
     rw[hT] at hO;have HR:Hid ((qei xs).length=4+4 * j+szN (qdu xs)):=hid (by rw[qjf,Hl.out]);have HE:Hid (qei xs=w4 j++qfs xs++qjz (qdu xs)):=hid (by unfold qei;rw[Hl.out,zln]);have hX:=hid (qk0.good (w':=wr) HFit.out (v:=.slice A5 (4+4 * j+szN (qdu xs)) c5) (by rw[HR.out,HE.out];exact hO) hb);clear hO hb;rw[hT];generalize 4+4 * j+szN (qdu xs)=zz at *;go_wp2_with fail
     go_ret2
     exact hX.out
theorem qk0.ok {xs:List En}{w w':World}{e:Ending}(h:qk0 xs w e w')(hf:qjt xs=true):
 ∃A n c,e=.returned (.tuple #[.slice A n c,.int .i64 0])/\n=(qei xs).length/\JB.Own w' w.heap.size (.slice A n c) n (qei xs)/\JB.Rd w' w'.heap.size A n (qei xs)/\n<=c/\c<=maxLen/\Below w.heap.size w w':=by
 obtain⟨v,rfl,ho,hb⟩:=h;have h1:outA xs=qei xs:=if_pos hf;have h2:errA xs=0:=if_pos hf;rw[h1] at ho;rw[h2];obtain⟨A,c,rfl,hr,hnc,hc⟩:=ho.reads;exact⟨A,_,c,rfl,rfl,ho,hr,hnc,hc,hb⟩
theorem qk0.reads {xs:List En}{w w':World}{e:Ending}(h:qk0 xs w e w'):
 ∃A n c,e=.returned (.tuple #[.slice A n c,.int .i64 (errA xs)])/\n=(outA xs).length/\JB.Own w' w.heap.size (.slice A n c) n (outA xs)/\JB.Rd w' w'.heap.size A n (outA xs)/\n<=c/\c<=maxLen/\Below w.heap.size w w':=by
 obtain⟨v,rfl,ho,hb⟩:=h;obtain⟨A,c,rfl,hr,hnc,hc⟩:=ho.reads;exact⟨A,_,c,rfl,rfl,ho,hr,hnc,hc,hb⟩
end JA
namespace JA
open JB
end JA
namespace JC
open JB (qhc hid qds)
open JS (Oth Oth.refl Oth.new Oth.put Oth.alloc Oth.trans Fr Fr.refl Fr.new Fr.put Fr.ahead qe0 blk)
end JC
namespace JA
open JB
end JA
end Go.Proofs.YtlmolmohhpdhdaaGreatDoor
