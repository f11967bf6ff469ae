/-
  arwrite:
-/
import Derived.Test.YtlmolmohhpdhdaaGreatDoorYWf
set_option maxRecDepth 100000
set_option maxHeartbeats 16000000
set_option linter.all false
namespace Go.Proofs.YtlmolmohhpdhdaaGreatDoor
open Go.RowKit Go.Proofs Tryz
namespace JW
open JB JD JN JH JR
open JS (Fr blk)
theorem qze:∀{ps:List Mem},(∀y∈ps,(ptl y).length<=61+y.len)->(qbw ps).length<=ps.length * 61+lens ps
 |[],_=>by simp[qbw]
 |x::r,h=>by
  have h1:=qze (ps:=r) fun y hy=>h y (List.mem_cons_of_mem _ hy);have h2:=h x List.mem_cons_self;have e:qbw (x::r)=ptl x++qbw r:=by simp[qbw]
  have e2:lens (x::r)=x.len+lens r:=by simp[lens]
  rw[e,e2,zlb,zlk,Nat.succ_mul];omega
theorem Qbb {xs:List Mem}(hfit:∀x∈xs,qca x=0):lens (qb5 xs)=lens xs:=by
 unfold lens;congr 1
 apply List.ext_getElem
 ·rw[zlB,zlB,qb2 hfit]
 ·intro i h1 h2;rw[zlB] at h2;rw[List.getElem_map,List.getElem_map,qgz hfit h2];rfl
theorem qv1 {o:Nat}{xs:List Mem}:∀k,k<=xs.length->qab o xs k<=o+k * 61+lens (xs.take k)
 |0,_=>by simp[qab]
 |k+1,h=>by
  rw[qcn h];have h1:=qv1 (o:=o) (xs:=xs) k (by omega)
  have h2:lens (xs.take (k+1))=lens (xs.take k)+xs[k].len:=by
   unfold lens;rw[zlg h,List.map_append,List.sum_append];simp
  unfold pz;omega
theorem Qe6 (xs:List Mem)(k:Nat):lens (xs.take k)<=lens xs:=by
 have h:lens xs=lens (xs.take k)+lens (xs.drop k):=by
  unfold lens;rw[<-List.sum_append,<-List.map_append,List.take_append_drop]
 omega
theorem Qe7 {o:Nat}{xs:List Mem}(hn:xs.length<=200)(hs:lens xs<=15000)(k:Nat)(hk:k<=xs.length):qab o xs k<=o+27200:=by
 have h1:=qv1 (o:=o) k hk;have h2:=Qe6 xs k;omega
theorem qt2 {xs:List Mem}(hfit:∀x∈xs,qca x=0)(hn:xs.length<=200){y:Mem}(hy:y∈qb5 xs):∃(k:Nat)(hk:k<xs.length),y=setN (fld ((nms xs).take k) xs[k].name) xs[k]/\qxs y=0/\y.name.size<=16:=by
 obtain⟨k,hk,rfl⟩:=List.mem_iff_getElem.1 hy;have hk':k<xs.length:=by rw[qb2 hfit] at hk;exact hk
 refine⟨k,hk',qgz hfit hk',?_⟩;rw[qgz hfit hk'];refine⟨qka hfit (by omega) hk',?_⟩;have hv:=(qip (hfit xs[k] (zlq hk'))).1;have hal:qeu ((nms xs).take k)=true:=qb7.2 fun n hm=>qb7.1 (qfz hfit) n (List.mem_of_mem_take hm);have hl:=qh8 hal (k:=202) (by rw[zlu];simp[nms];omega);have:=(qbu.1 (Qe3 (pre:=(nms xs).take k) hv (by omega)).1).2.1;exact this
theorem qv2 {hm:Bool}{md:List UInt8}{xs:List Mem}(hfit:∀x∈xs,qca x=0)(hn:xs.length<=200)(_hok:∀x∈xs,MOk x)(hl:∀x∈xs,x.data.length=x.len)(hmd:md.length<=20000)(hs:lens xs<=15000):
 (qbw (qg8 hm none md.length 0 md)).length<=20061/\(qbw (qfr none (bo (nms xs)).length 0 (bo (nms xs)))).length<=51461/\(qbw (qb5 xs)).length<=27200:=by
 refine⟨?_,?_,?_⟩
 ·cases hm
  ·simp[qg8,qbw]
  ·show (qbw [_]).length<=20061
   rw[qcp,(qff (x:=mpt none md.length 0 md) (qiq (by omega)) rfl).2];show 60+md.length+md.length%2<=20061
   omega
 ·have hb:=qpj (nms xs);have hnl:(nms xs).length=xs.length:=by simp[nms]
  unfold qfr;split
  ·simp[qbw]
  ·rw[qcp,(qff (x:=tpt none (bo (nms xs)).length 0 (bo (nms xs))) (qgy (by omega)) rfl).2];show 60+(bo (nms xs)).length+(bo (nms xs)).length%2<=51461
   omega
 ·have:=qze (ps:=qb5 xs) fun y hy=>by
   obtain⟨k,hk,e,he,_⟩:=qt2 hfit hn hy;have h1:y.len=xs[k].len:=by rw[e];rfl
   have h2:y.data=xs[k].data:=by rw[e];rfl
   rw[(qff he (by rw[h1,h2];exact hl _ (zlq hk))).2];omega
  rw[qb2 hfit,Qbb hfit] at this;omega
theorem arch_len {hm:Bool}{md:List UInt8}{xs:List Mem}(hfit:∀x∈xs,qca x=0)(hn:xs.length<=200)(hok:∀x∈xs,MOk x)(hl:∀x∈xs,x.data.length=x.len)(hmd:md.length<=20000)(hs:lens xs<=15000):(qr2 hm md xs).length<=99000:=by
 obtain⟨h1,h2,h3⟩:=qv2 (hm:=hm) hfit hn hok hl hmd hs;unfold qr2;rw[zlb,zlb,zlb];have:JR.qbd.length=8:=rfl;omega
def Qbc (hm:Bool)(md:List UInt8)(xs:List Mem):List UInt8:=if (qbe 0 xs).2=0 then qr2 hm md xs else []
def Writes (hm:Bool)(md:List UInt8)(xs:List Mem)(w:World)(e:Ending)(w':World):Prop:=
 ∃v,e=.returned (.tuple #[v,.int .i64 (qbe 0 xs).2])/\JB.Own w' w.heap.size v (Qbc hm md xs).length (Qbc hm md xs)/\Below w.heap.size w w'
theorem qv3 {w:World}{v:Value}{B K:Nat}{x:Mem}(hr:JB.Rd w K x.ptr x.len x.data)(hK:K<=B)(hB:B<w.heap.size)(hv:∀k,blk v=some k->K<=k)(ho:POk x):PRd w v B x:=by
 refine⟨hr.more (by omega),fun a hn e=>?_,ho⟩;obtain⟨b,o,e2,hl,_⟩:=hr.2 0 (by rw[hr.1];exact hn);rw[e] at e2;injection e2 with e2;subst e2;exact⟨by show b≠B;omega,fun q=>by have:=hv _ q;simp only at this;omega⟩
theorem Qe8 {w:World}{v:Value}{B K:Nat}{x:Mem}(hr:JB.Own w K (.slice x.ptr x.len x.cap) x.len x.data)(hK:B<K)(hv:∀k,blk v=some k->k<K)(ho:POk x):PRd w v B x:=by
 obtain⟨A,c,e,hrd,_⟩:=hr.reads;injection e with e1 _ e3;rw[<-e1] at hrd;refine⟨hrd,fun a _ e=>?_,ho⟩;have h1:K<=a.block:=hr.blk_ge (k:=a.block) (by rw[e];rfl);exact⟨by omega,fun q=>by have:=hv _ q;omega⟩
theorem Qe9 (hm:Bool)(mA:Option Addr)(mn mc:Nat)(md:List UInt8)(Km K:Nat)(A:Option Addr)(n c:Nat)(xs:List Mem)(w:World)(hg:qev w)(hmd:JB.Rd w Km mA mn md)(hKm:Km<=w.heap.size)(hmn:mn<=20000)(h:RdM w K A n xs)(hK:K<=w.heap.size)(hok:∀x∈xs,MOk x)(hn:n<=200)(hsum:lens xs<=15000):
 Calls prog 84 #[.bool hm,.slice mA mn mc,.slice A n c] w (Writes hm md xs w):=by
 have Hsum:=hid hsum;clear hsum;have Hl:=hid h.1;have Hg:=hid hg;have Hmd:=hid hmd;clear hg hmd;go_enter func84,ntmps84;go_wp2_with fail
 refine (qpi K A n c xs w h hK hok (by omega)).mono ?_;rintro e w1 ⟨rfl,hb1⟩;obtain⟨f1,f2,hf⟩:∃f1 f2,qbe 0 xs=(f1,f2):=⟨_,_,rfl⟩;have HF:=hid hf;rw[hf];by_cases hz:f2=0
 ·subst hz;have hfit:=(qgh 0 xs).1 (by rw[hf]);have Hfit:=hid hfit;clear hf hfit;have hs1:=hb1.size;have kc:=Lib.run_convert_bytes_const (P:=prog) w1 22 5 #[.int .u8 33,.int .u8 60,.int .u8 97,.int .u8 114,.int .u8 99,.int .u8 104,.int .u8 62,.int .u8 10] 8 8 underlying22 underlying5;have hr1:=zld w1 (.cells #[.int .u8 33,.int .u8 60,.int .u8 97,.int .u8 114,.int .u8 99,.int .u8 104,.int .u8 62,.int .u8 10] 5 (8,9))
  have ho2:JB.Own (w1.alloc (.cells #[.int .u8 33,.int .u8 60,.int .u8 97,.int .u8 114,.int .u8 99,.int .u8 104,.int .u8 62,.int .u8 10] 5 (8,9))) w.heap.size (.slice (some ⟨w1.heap.size,0,none⟩) 8 8) 8 JR.qbd:=
   ⟨rfl,.inr ⟨w1.heap.size,8,_,(8,9),rfl,hs1,hr1,Nat.le_refl _,by unfold maxLen;omega,rfl,rfl,fun j hj=>by simp only;omega⟩⟩
  have hb2:Below w.heap.size w (w1.alloc (.cells #[.int .u8 33,.int .u8 60,.int .u8 97,.int .u8 114,.int .u8 99,.int .u8 104,.int .u8 62,.int .u8 10] 5 (8,9))):=hb1.alloc hs1 _;have hs2:(w1.alloc (.cells #[.int .u8 33,.int .u8 60,.int .u8 97,.int .u8 114,.int .u8 99,.int .u8 104,.int .u8 62,.int .u8 10] 5 (8,9))).heap.size=w1.heap.size+1:=zlr _ _;have hrow3:=zld (w1.alloc (.cells #[.int .u8 33,.int .u8 60,.int .u8 97,.int .u8 114,.int .u8 99,.int .u8 104,.int .u8 62,.int .u8 10] 5 (8,9))) (.cells #[.slice (some ⟨w1.heap.size,0,none⟩) 8 8] 208);have ho3:=ho2.alloc (.cells #[.slice (some ⟨w1.heap.size,0,none⟩) 8 8] 208);have hb3:=hb2.alloc hb2.size (.cells #[.slice (some ⟨w1.heap.size,0,none⟩) 8 8] 208);have hs3:((w1.alloc (.cells #[.int .u8 33,.int .u8 60,.int .u8 97,.int .u8 114,.int .u8 99,.int .u8 104,.int .u8 62,.int .u8 10] 5 (8,9))).alloc (.cells #[.slice (some ⟨w1.heap.size,0,none⟩) 8 8] 208)).heap.size=w1.heap.size+2:=by rw[zlr,hs2]
  rw[hs2] at hrow3;clear hr1 ho2 hb2 hs2;go_upto_region 5 with fail
  generalize (w1.alloc (.cells #[.int .u8 33,.int .u8 60,.int .u8 97,.int .u8 114,.int .u8 99,.int .u8 104,.int .u8 62,.int .u8 10] 5 (8,9))).alloc (.cells #[.slice (some ⟨w1.heap.size,0,none⟩) 8 8] 208)=w3 at *;generalize w1.heap.size=g at *;clear kc hb1;go_wp2_with fail
  refine (Qe5 hm mA mn mc md K A n c xs w3 (Hg.out.on hb3) (h.below (hb3.mono hK)) (by omega) hok hn Hfit.out).mono ?_;rintro e w4 ⟨AP,cP,At,ct,rfl,oP,oT,hb4⟩;have hrow4:=(hb4.block (g+1) (by omega)).trans hrow3;have ho4:=ho3.below hb4;have hb04:=hb3.trans (hb4.mono (by omega));have hsz4:=hb4.size;have h4:=h.below (hb04.mono hK)
  have hl4:∀x∈xs,x.data.length=x.len:=fun x hx=>by
   obtain⟨k,hk,rfl⟩:=List.mem_iff_getElem.1 hx;exact (h4.2 k hk).2.1.1
  have hn':xs.length<=200:=by have:=Hl.out;omega
  have hmdl:md.length=mn:=Hmd.out.1;have hPL:=qv2 (hm:=hm) Hfit.out hn' hok hl4 (by omega:md.length<=20000) Hsum.out
  have hx4:∀x∈qg8 hm mA mn mc md++(qfr At (bo (nms xs)).length ct (bo (nms xs))++qb5 xs),PRd w4 (.slice (some ⟨g,0,none⟩) 8 8) (g+1) x:=fun x hx=>by
   rw[zlG,zlG] at hx;rcases hx with hx|hx|hx
   ·have hh:hm=true:=by cases hm;(· simp[qg8] at hx);rfl
    subst hh;obtain rfl:x=mpt mA mn mc md:=by simpa [qg8] using hx
    exact qv3 (K:=w.heap.size) ((Hmd.out.below (hb04.mono hKm)).more hKm) (by omega) (by omega) (fun k e=>by injection e with e;simp only at e;omega) ⟨qiq (by omega),by show (1:Nat)<=1000;decide,by show mn<=100000;omega,by show (0:Int)<_;decide,by show (0:Int)<_;decide,by show (0:Int)<_;decide,by show (0:Int)<_;decide⟩
   ·have hb:=qpj (nms xs);have hnl:(nms xs).length=xs.length:=by simp[nms]
    have hx':x=tpt At (bo (nms xs)).length ct (bo (nms xs)):=by
     unfold qfr at hx;split at hx
     ·simp at hx
     ·simpa using hx
    subst hx';exact Qe8 (K:=w3.heap.size) oT (by omega) (fun k e=>by injection e with e;simp only at e;omega) ⟨qgy (by omega),by show (2:Nat)<=1000;decide,by show (bo (nms xs)).length<=100000;omega,by show (0:Int)<_;decide,by show (0:Int)<_;decide,by show (0:Int)<_;decide,by show (0:Int)<_;decide⟩
   ·obtain⟨k,hk,e,he,hnm⟩:=qt2 Hfit.out hn' hx;have hmk:=hok xs[k] (zlq hk);have hrd:=(h4.2 k hk).2.1;have e1:x.ptr=xs[k].ptr:=by rw[e];rfl
    have e2:x.len=xs[k].len:=by rw[e];rfl
    have e3:x.data=xs[k].data:=by rw[e];rfl
    have e4:x.time=xs[k].time:=by rw[e];rfl
    have e5:x.uid=xs[k].uid:=by rw[e];rfl
    have e6:x.gid=xs[k].gid:=by rw[e];rfl
    have e7:x.mode=xs[k].mode:=by rw[e];rfl
    refine qv3 (K:=w.heap.size) (by rw[e1,e2,e3];exact hrd.more hK) (by omega) (by omega) (fun k e=>by injection e with e;simp only at e;omega) ⟨he,by omega,by have:=hmk.len;omega,by rw[e4];exact hmk.t,by rw[e5];exact hmk.u,by rw[e6];exact hmk.g,by rw[e7];exact hmk.m⟩
  have hflat:qbw (qg8 hm mA mn mc md++(qfr At (bo (nms xs)).length ct (bo (nms xs))++qb5 xs))=qbw (qg8 hm none mn 0 md)++(qbw (qfr none (bo (nms xs)).length 0 (bo (nms xs)))++qbw (qb5 xs)):=by
   rw[qdb,qdb,Qe1,Qe2]
  have hA4:Apt (qg8 hm mA mn mc md++(qfr At (bo (nms xs)).length ct (bo (nms xs))++qb5 xs)).length AP (.slice (some ⟨g,0,none⟩) 8 8) (g+1):=fun a _ e=>by
   have h1:w3.heap.size<=a.block:=by
    rcases oP.2 with ⟨q,_⟩|⟨g',_,_,_,q,hg',_⟩
    ·injection q with q;rw[e] at q;cases q
    ·injection q with q;rw[e] at q;injection q with q;subst q;exact hg'
   exact⟨by omega,fun q=>by injection q with q;simp only at q;omega⟩
  have hfl:8+(qbw (qg8 hm mA mn mc md++(qfr At (bo (nms xs)).length ct (bo (nms xs))++qb5 xs))).length<=400000:=by
   rw[hflat,zlb,zlb];rw[hmdl] at hPL;omega
  have hpn:(qg8 hm mA mn mc md++(qfr At (bo (nms xs)).length ct (bo (nms xs))++qb5 xs)).length<=202:=by
   rw[zlb,zlb,qb2 Hfit.out];have h1:(qg8 hm mA mn mc md).length<=1:=by unfold qg8;split<;>simp
   have h2:(qfr At (bo (nms xs)).length ct (bo (nms xs))).length<=1:=by unfold qfr;split<;>simp
   omega
  have HW:Hid (Qbc hm md xs=JR.qbd++qbw (qg8 hm mA mn mc md++(qfr At (bo (nms xs)).length ct (bo (nms xs))++qb5 xs))):=hid (by
   unfold Qbc qr2;rw[HF.out,if_pos rfl,hflat,hmdl])
  clear hflat hPL oT hb3 hrow3 ho3 hmdl hl4 h4;generalize qg8 hm mA mn mc md++(qfr At (bo (nms xs)).length ct (bo (nms xs))++qb5 xs)=ps at *;go_wp2_with fail
  refine (qv0 w.heap.size (g+1) _ 8 JR.qbd AP ps.length cP ps w4 hrow4 (by omega) ho4 (RdP.of oP) hA4 hx4 (by omega) hfl).mono ?_;rintro e w5 ⟨rfl,v5,hrow5,ho5,hf5⟩;obtain⟨A5,c5,rfl,_⟩:=ho5.reads;have b5:=zjc (g+1) 0 hrow5;go_wp2_with fail
  go_ret2
  refine⟨.slice A5 (8+(qbw ps).length) c5,by rw[HF.out];rfl,?_,hb04.trans hf5.below⟩;rw[HW.out,show (JR.qbd++qbw ps).length=8+(qbw ps).length by rw[zlb];rfl];exact ho5
 ·have HW:Hid (Qbc hm md xs=[]):=hid (by unfold Qbc;rw[HF.out,if_neg hz]);clear hf;go_wp2_with fail
  go_ret2
  refine⟨.slice none 0 0,by rw[HF.out];rfl,?_,hb1⟩;rw[HW.out];exact JB.Own.nil _ _
theorem qkb (s:ByteArray)(t u g m z:Int)(K:Nat)(A:Option Addr)(n c:Nat)(d:List UInt8)(w:World)(hr:JB.Rd w K A n d)(hK:K<=w.heap.size)(hn:n<=90000)(hs:s.size<=1000)(l0:t<9223372036854775808)(l1:u<9223372036854775808)(l2:g<9223372036854775808)(l3:m<9223372036854775808):
 Calls prog 101 #[.agg #[.string s,.int .i64 t,.int .i64 u,.int .i64 g,.int .i64 m,.int .i64 z],.slice A n c] w fun e w'=>∃v,e=.returned v/\JB.Own w' w.heap.size v (mkp s (num t u g m (n:Int)) d).length (mkp s (num t u g m (n:Int)) d)/\Below w.heap.size w w':=by
 have hdl:=hr.1;have He:=hid fun W=>qnw s t u g m (n:Int) W (by omega) l0 l1 l2 l3 (by omega);unfold qc9 at He;have Hp:Hid (mkp s (num t u g m (n:Int)) d=qqy s (num t u g m (n:Int))++d++(if n%2=1 then [10] else [])):=hid (by unfold mkp;rw[hdl]);have Hel:=hid (qx0 s (num t u g m (n:Int)));generalize mkp s (num t u g m (n:Int)) d=L at *;generalize qqy s (num t u g m (n:Int))=eb at *;generalize qjb s (num t u g m (n:Int))=ee at *;have hb0:=zjB w (.cells #[.string s,.int .i64 t,.int .i64 u,.int .i64 g,.int .i64 m,.int .i64 (n:Int)] 155);have hrow:=zld w (.cells #[.string s,.int .i64 t,.int .i64 u,.int .i64 g,.int .i64 m,.int .i64 (n:Int)] 155);go_enter func101,ntmps101;go_upto_region 2 with fail
 generalize w.alloc (.cells #[.string s,.int .i64 t,.int .i64 u,.int .i64 g,.int .i64 m,.int .i64 (n:Int)] 155)=w0 at *;have zzc:=fun k=>zjc w.heap.size k hrow;have hs0:=hb0.size;go_wp2_with fail
 refine (He.out _).mono ?_;rintro e w1 ⟨v1,rfl,o1,hb1⟩;obtain⟨A1,k1,rfl,r1,_⟩:=o1.reads;have hb01:=hb0.trans (hb1.mono hs0);have hs1:=hb01.size;clear zzc hrow o1;go_wp2_with fail
 refine (JB.qg7 w1.heap.size K A1 A eb.length k1 n c eb d w1 r1 (hr.below (hb01.mono hK)) zjn (by omega) (by have:=Hel.out;omega) (by omega)).mono ?_;rintro e w2 ⟨v2,rfl,o2,hb2⟩;obtain⟨A2,k2,rfl,_⟩:=o2.reads;have hb02:=hb01.trans (hb2.mono hs1);replace o2:=o2.more hs1;have hel:=Hel.out;clear hb0 hb1 hb2 hs0 r1 hb01;by_cases hodd:n%2=1
 ·have e1:(n:Int).tmod 2=1:=by have:(n:Int).tmod 2=((n%2:Nat):Int):=rfl;rw[this,hodd];rfl
  have e2:IntKind.i64.wrap 1=1:=by decide
  have HP:Hid (L=eb++d++[10]):=hid (by rw[Hp.out,if_pos hodd]);clear hodd Hp;go_wp2_with (at_builtin;go_must (refine JB.qa4 w2 w.heap.size (.slice A2 (eb.length+n) k2) (eb.length+n) _ 10 _ rfl o2 hb02.size (by omega) rfl (.tmp 22) (.tmp 23) rfl rfl rfl ?_);intro v3 w3 o3 hb3;obtain⟨A3,k3,rfl,_⟩:=o3.reads)
  go_ret
  have hl:L.length=eb.length+n+1:=by rw[HP.out,zlb,zlb,hdl];rfl
  refine⟨_,rfl,?_,hb02.trans hb3⟩;rw[hl,HP.out];exact o3
 ·have h0:n%2=0:=by omega
  have e1:(n:Int).tmod 2=0:=by have:(n:Int).tmod 2=((n%2:Nat):Int):=rfl;rw[this,h0];rfl
  have e2:IntKind.i64.wrap 0=0:=by decide
  have HP:Hid (L=eb++d):=hid (by rw[Hp.out,if_neg hodd,zlJ]);clear hodd Hp h0;go_wp2_with fail
  go_ret
  have hl:L.length=eb.length+n:=by rw[HP.out,zlb,hdl]
  refine⟨_,rfl,?_,hb02⟩;rw[hl,HP.out];exact o2
end JW
namespace JW
open JB JD JN JH JR
open JS (Fr blk Oth)
theorem qrg {xs:List Mem}(hfit:∀x∈xs,qca x=0)(hn:xs.length<=200)(hl:∀x∈xs,x.data.length=x.len)(o:Nat):∀k,k<=xs.length->o+(qbw ((qb5 xs).take k)).length=qab o xs k
 |0,_=>by simp[qbw,qab]
 |k+1,h=>by
  have hk:k<xs.length:=by omega
  have hkb:k<(qb5 xs).length:=by rw[qb2 hfit];exact hk
  have ih:=qrg hfit hn hl o k (by omega);rw[qpk hkb,zlb,<-Nat.add_assoc,ih,qcn hk,qgz hfit hk,(qff (qka hfit (by omega) hk) (by exact hl xs[k] (zlq hk))).2];rfl
theorem fo_get {xs:List Mem}{w:World}{K n c:Nat}{A:Option Addr}(ho:JS.Own w K (.slice A n c) n (fo (nms xs))){k:Nat}(hk:k<n){fk:ByteArray}(h:(fo (nms xs))[k]?=some fk):∃b o,A=some ⟨b,o,none⟩/\b<w.heap.size/\w.cell? ⟨b,o+k,none⟩=some (.string fk)/\n<=c:=by
 obtain⟨A',c',ef,hrd,hc,_⟩:=ho.reads;injection ef with ef1 _ ef3;subst ef1 ef3;obtain⟨b,o,e,hb,hfc⟩:=hrd.2 k (by rw[hrd.1];exact hk)
 have hfe:(fo (nms xs))[k]'(by rw[hrd.1];exact hk)=fk:=by
  rw[zlh (by rw[hrd.1];exact hk)] at h;injection h
 rw[hfe] at hfc;exact⟨b,o,e,hb,hfc,hc⟩
def qpn (hm:Bool)(md:List UInt8)(xs:List Mem)(w:World)(e:Ending)(w':World):Prop:=
 ∃v A n c,e=.returned (.tuple #[v,.slice A n c,.int .i64 (qbe 0 xs).2])/\JB.Own w' w.heap.size v (Qbc hm md xs).length (Qbc hm md xs)/\
  JC.Own 3 1 w' w.heap.size (.slice A n c) n (qd0 (if (qbe 0 xs).2=0 then qky (qez hm md.length xs) xs else []))/\Below w.heap.size w w'
theorem qpn.fin {hm:Bool}{md:List UInt8}{xs:List Mem}{w W:World}(hz:(qbe 0 xs).2=0){pre:List UInt8}(hpre:JR.qbd++(qbw (qg8 hm none md.length 0 md)++qbw (qfr none (bo (nms xs)).length 0 (bo (nms xs))))=pre)(hln:pre.length=qez hm md.length xs)
 {A:Option Addr}{n c:Nat}{Ab:Option Addr}{lb cb:Nat}(hn:xs.length=n)(ho:pre.length+(qbw (qb5 xs)).length=lb)
 (h1:JC.Own 3 1 W w.heap.size (.slice A n c) n (qd0 ((List.range n).map (qab pre.length xs))))(h2:JB.Own W w.heap.size (.slice Ab lb cb) lb (pre++qbw (qb5 xs)))(h3:Below w.heap.size w W):
 qpn hm md xs w (.returned (.tuple #[.slice Ab lb cb,.slice A n c,.int .i64 0])) W:=by
 have e1:Qbc hm md xs=pre++qbw (qb5 xs):=by
  unfold Qbc qr2;rw[if_pos hz,<-hpre,zln,zln]
 refine⟨.slice Ab lb cb,A,n,c,by rw[hz],?_,?_,h3⟩
 ·rw[e1,zlb,ho];exact h2
 ·rw[if_pos hz,<-hln];unfold qky;rw[hn];exact h1
theorem qt3 (hm:Bool)(md T:List UInt8)(hmd:md.length<=20000)(hT:T.length<=52000):(JR.qbd++(qbw (qg8 hm none md.length 0 md)++qbw (qfr none T.length 0 T))).length=8+(if hm=true then pz md.length else 0)+(if T.length=0 then 0 else pz T.length):=by
 have h8:JR.qbd.length=8:=rfl
 have h1:(qbw (qg8 hm none md.length 0 md)).length=if hm=true then pz md.length else 0:=by
  cases hm
  ·rfl
  ·show (qbw [_]).length=pz md.length
   rw[qcp,(qff (x:=mpt none md.length 0 md) (qiq (by omega)) rfl).2];rfl
 have h2:(qbw (qfr none T.length 0 T)).length=if T.length=0 then 0 else pz T.length:=by
  unfold qfr;split
  ·rfl
  ·rw[qcp,(qff (x:=tpt none T.length 0 T) (qgy (by omega)) rfl).2];rfl
 rw[zlb,zlb,h8,h1,h2];omega
theorem qre (w:World):
 Calls prog 99 #[] w fun e w'=>∃A c,e=.returned (.slice A 8 c)/\JB.Own w' w.heap.size (.slice A 8 c) 8 JR.qbd/\Below w.heap.size w w':=by
 go_enter func99,ntmps99;have kc:=Lib.run_convert_bytes_const (P:=prog) w 22 5 #[.int .u8 33,.int .u8 60,.int .u8 97,.int .u8 114,.int .u8 99,.int .u8 104,.int .u8 62,.int .u8 10] 8 8 underlying22 underlying5;go_wp2_with fail
 go_ret
 exact⟨_,_,rfl,⟨rfl,.inr ⟨w.heap.size,8,_,(8,9),rfl,Nat.le_refl _,zld w _,Nat.le_refl _,by unfold maxLen;omega,rfl,rfl,fun j hj=>by simp only;omega⟩⟩,(Below.refl _ w).alloc zjn _⟩
theorem Qbd (hm:Bool)(mA:Option Addr)(mn mc:Nat)(md:List UInt8)(Km K:Nat)(A:Option Addr)(n c:Nat)(xs:List Mem)(w:World)(hmd:JB.Rd w Km mA mn md)(hKm:Km<=w.heap.size)(hmn:mn<=20000)(h:RdM w K A n xs)(hK:K<=w.heap.size)(hok:∀x∈xs,MOk x)(hn:n<=200)(hsum:lens xs<=15000):
 Calls prog 64 #[.bool hm,.slice mA mn mc,.slice A n c] w (qpn hm md xs w):=by
 have Hsum:=hid hsum;clear hsum;have Hl:=hid h.1;have Hmd:=hid hmd
 have Hxl:Hid (∀x∈xs,x.data.length=x.len):=hid fun x hx=>by
  obtain⟨k,hk,rfl⟩:=List.mem_iff_getElem.1 hx;exact (h.2 k hk).2.1.1
 have hlen:=hid (qpj (nms xs));have hnl:Hid ((nms xs).length=n):=hid (by simp[nms,Hl.out]);clear hmd;go_enter func64,ntmps64;go_wp2_with fail
 refine (qrf K A n c xs w h hK hok (by omega)).mono ?_;rintro e w1 ⟨rfl,hb1⟩;obtain⟨f1,f2,hf⟩:∃f1 f2,qbe 0 xs=(f1,f2):=⟨_,_,rfl⟩;rw[hf];by_cases hz:f2=0
 ·subst hz;have HF0:Hid ((qbe 0 xs).2=0):=hid (by rw[hf]);have Hfit:=hid ((qgh 0 xs).1 HF0.out);have hfl:Hid ((fo (nms xs)).length=n):=hid (by rw[show fo (nms xs)=qj7 [] (nms xs) from if_pos (qfz Hfit.out),qe2,hnl.out]);clear hf;go_wp2_with fail
  go_loopw [12,11] (fun i v W=>∃(k:Nat)(A1:Option Addr)(c1:Nat),i=.int .i64 (k:Int)/\v=.slice A1 k c1/\k<=n/\JS.Own W w.heap.size (.slice A1 k c1) k ((nms xs).take k)/\Below w.heap.size w W) (fun i _ _=>n-(intOf i).toNat)
  case atStart=>exact⟨0,none,0,rfl,rfl,by omega,by simpa using JS.Own.nil _ _,hb1⟩
  case round=>
   obtain⟨k,A1,c1,rfl,rfl,hk,hO,hb⟩:=hrel;by_cases hlt:k<n
   ·have hkl:k<xs.length:=by have:=Hl.out;omega
    have hki:(k:Int)<(n:Int):=by omega
    obtain⟨⟨b,o,rfl,hbK,hcell⟩,_,_⟩:=(h.below (hb.mono hK)).2 k hkl;have HT:Hid ((nms xs).take (k+1)=(nms xs).take k++[xs[k].name]):=hid (by rw[List.take_add_one,show (nms xs)[k]?=some xs[k].name by simp[nms,hkl]];rfl);generalize xs[k]=x at *;obtain⟨x0,x1,x2,x3,x4,x5,x6,x7,x8⟩:=x;obtain⟨p0,p1,p2,p3,p4,p5⟩:=hcell;simp only at *;go_wp2_with (at_builtin;go_must (refine JS.qa4 wr w.heap.size _ k _ x0 hO hb.size (by omega) rfl (.tmp 33) (.tmp 39) rfl rfl rfl ?_);intro v2 w2 ho2 hb2 _ _;obtain⟨A2,c2,rfl,_⟩:=ho2.reads)
    rw[<-HT.out] at ho2;have hb02:=hb.trans hb2;clear hO hb hb2 p0 p1 p2 p3 p4 p5;go_roundw
    all_goals first
     |exact⟨k+1,A2,c2,by go_num,by go_num,by omega,ho2,hb02⟩
     |(simp[intOf];omega)
   ·obtain rfl:k=n:=by omega
    have hT:(nms xs).take k=nms xs:=zlj (by simp[nms,Hl.out]);rw[hT] at hO;obtain⟨_,_,e1,hr1,_⟩:=hO.reads;injection e1 with e11 _ e13;subst e11 e13;have HB:=hid (Qc7 wr.heap.size A1 k c1 (nms xs) wr hr1 zjn (by omega) (qzb hok));clear hT hO hr1;go_wp2_with fail
    refine HB.out.mono ?_;rintro e w3 ⟨vT,vF,rfl,oT,oF,hb3⟩;obtain⟨At,ct,rfl,_⟩:=oT.reads;obtain⟨Af,cf,rfl,_⟩:=oF.reads;have hb03:=hb.trans (hb3.mono hb.size);replace oT:=oT.more hb.size;replace oF:=oF.more hb.size;rw[hfl.out] at oF;obtain⟨tn,htn⟩:∃tn,(bo (nms xs)).length=tn:=⟨_,rfl⟩;have HTn:=hid htn;rw[htn,hfl.out];rw[htn] at oT;have htb:tn<=52000:=by have:=hlen.out;rw[htn] at this;have:=hnl.out;omega
    have hs3:=hb03.size;clear hb hb3 htn HB;go_wp2_with fail
    refine (qre w3).mono ?_;rintro e w4 ⟨AM,cM,rfl,oM,hb4⟩;have hb04:=hb03.trans (hb4.mono hs3);have oT4:=oT.below hb4;have oF4:=oF.below hb4;replace oM:=oM.more hs3;clear hb4 hb03 hs3 oT oF;obtain⟨n,hn0⟩:∃n,n=k:=⟨_,rfl⟩;subst hn0;cases hm
    case' false=>
     obtain⟨bs,hbs0⟩:∃bs,JR.qbd=bs:=⟨_,rfl⟩;have hbl8:8=bs.length:=by rw[<-hbs0];rfl
     have HBs:Hid (bs=JR.qbd++qbw (qg8 false none md.length 0 md)):=hid (by rw[<-hbs0];rfl);have oB:=oM;rw[hbs0,hbl8] at oB;rw[hbl8];have oT:=oT4;have oF:=oF4;have hbq:=hb04;have hbsb:bs.length<=23000:=by omega
     clear oM oT4 oF4 hb04 hbs0 hbl8;by_cases ht0:tn=0
     case' pos=>
      have hti:¬(0:Int)<(tn:Int):=by omega
      obtain⟨pre,hpre⟩:∃pre,JR.qbd++(qbw (qg8 false none md.length 0 md)++qbw (qfr none (bo (nms xs)).length 0 (bo (nms xs))))=pre:=⟨_,rfl⟩;have HPre:=hid hpre;have hplen:=qt3 false md (bo (nms xs)) (by have:=Hmd.out.1;omega) (by have:=hlen.out;have:=hnl.out;omega);rw[hpre] at hplen;have HBase:Hid (pre.length=qez false md.length xs):=hid hplen
      have hpb:pre.length<=71600:=by
       have h1:=hlen.out;have h2:=hnl.out;have h3:=Hmd.out.1;rw[hplen];unfold pz;split<;>split<;>omega
      clear hplen;have hbs:pre=bs:=by rw[HBs.out,<-hpre,HTn.out,ht0];simp[qfr,qbw]
      subst hbs;clear hpre;go_wp2_with fail
      generalize w4=wq at *;generalize AM=Ab at *;generalize cM=cb at *
     case' neg=>
      have hti:(0:Int)<(tn:Int):=by omega
      obtain⟨_,_,eT,rT,_⟩:=oT.reads;injection eT with eT1 _ eT3;subst eT1 eT3;go_wp2_with fail
      refine (qkb ⟨#[47,47]⟩ 0 0 0 0 0 w4.heap.size _ tn ct (bo (nms xs)) w4 rT zjn (by omega) (by show (2:Nat)<=1000;decide) (by decide) (by decide) (by decide) (by decide)).mono ?_;rintro e w7 ⟨v7,rfl,o7,hb7⟩;obtain⟨A7,c7,rfl,r7,_⟩:=o7.reads;have oB7:=oB.below hb7;obtain⟨_,_,eB,rB7,_⟩:=oB7.reads;injection eB with eB1 _ eB3;subst eB1 eB3;go_wp2_with fail
      have hpl7:=(qff (x:=tpt none tn 0 (bo (nms xs))) (qgy (by omega)) HTn.out).2;have e7:mkp ⟨#[47,47]⟩ (num 0 0 0 0 (tn:Int)) (bo (nms xs))=ptl (tpt none tn 0 (bo (nms xs))):=rfl;rw[e7] at o7 r7 |-;have hpl8:(ptl (tpt none tn 0 (bo (nms xs)))).length<=53000:=by rw[hpl7];show 60+tn+tn%2<=53000;omega
      refine (JB.qg7 w7.heap.size w7.heap.size _ A7 bs.length _ (ptl (tpt none tn 0 (bo (nms xs)))).length c7 bs _ w7 rB7 r7 zjn zjn (by omega) (by omega)).mono ?_;rintro e w8 ⟨v8,rfl,oB8,hb8⟩;obtain⟨A8,c8,rfl,_⟩:=oB8.reads;have hb07:=hbq.trans (hb7.mono hbq.size);have oF8:=(oF.below hb7).below hb8;replace oB8:=oB8.more hb07.size;have hb08:=hb07.trans (hb8.mono hb07.size);clear oB oB7 rB7 r7 o7 hb7 hb8 hb07 oF hbq oT rT hpl7 hpl8 e7;have oB:=oB8;have oF:=oF8;have hbq:=hb08;clear oB8 oF8 hb08;obtain⟨pre,hpre⟩:∃pre,JR.qbd++(qbw (qg8 false none md.length 0 md)++qbw (qfr none (bo (nms xs)).length 0 (bo (nms xs))))=pre:=⟨_,rfl⟩;have HPre:=hid hpre;have hplen:=qt3 false md (bo (nms xs)) (by have:=Hmd.out.1;omega) (by have:=hlen.out;have:=hnl.out;omega);rw[hpre] at hplen;have HBase:Hid (pre.length=qez false md.length xs):=hid hplen
      have hpb:pre.length<=71600:=by
       have h1:=hlen.out;have h2:=hnl.out;have h3:=Hmd.out.1;rw[hplen];unfold pz;split<;>split<;>omega
      clear hplen;have hbs:bs++ptl (tpt none tn 0 (bo (nms xs)))=pre:=by rw[HBs.out,<-hpre,HTn.out,show qfr none tn 0 (bo (nms xs))=[tpt none tn 0 (bo (nms xs))] from if_neg ht0,qcp,zln]
      have hbl:bs.length+(ptl (tpt none tn 0 (bo (nms xs)))).length=pre.length:=by rw[<-hbs,zlb]
      rw[hbs,hbl] at oB;rw[hbl];clear hpre hbs hbl;go_wp2_with fail
      generalize w8=wq at *;generalize A8=Ab at *;generalize c8=cb at *
    case' true=>
     go_wp2_with fail
     refine (qkb ⟨#[47]⟩ 0 0 0 0 0 Km mA mn mc md w4 (Hmd.out.below (hb04.mono hKm)) (by have:=hb04.size;omega) (by omega) (by show (1:Nat)<=1000;decide) (by decide) (by decide) (by decide) (by decide)).mono ?_;rintro e w5 ⟨v5,rfl,o5,hb5⟩;obtain⟨A5,c5,rfl,r5,_⟩:=o5.reads;have oM5:=oM.below hb5;obtain⟨_,_,eM,rM5,_⟩:=oM5.reads;injection eM with eM1 _ eM3;subst eM1 eM3;go_wp2_with fail
     have hmdl:=Hmd.out.1;have hpl5:=(qff (x:=mpt none mn 0 md) (qiq (by omega)) hmdl).2;have e5:mkp ⟨#[47]⟩ (num 0 0 0 0 (mn:Int)) md=ptl (mpt none mn 0 md):=rfl;rw[e5] at o5 r5 |-;have hpl6:(ptl (mpt none mn 0 md)).length<=22000:=by rw[hpl5];show 60+mn+mn%2<=22000;omega
     refine (JB.qg7 w5.heap.size w5.heap.size _ A5 8 _ (ptl (mpt none mn 0 md)).length c5 JR.qbd _ w5 rM5 r5 zjn zjn (by omega) (by omega)).mono ?_;rintro e w6 ⟨v6,rfl,oB6,hb6⟩;obtain⟨A6,c6,rfl,_⟩:=oB6.reads;have hb05:=hb04.trans (hb5.mono hb04.size);replace oB6:=oB6.more hb05.size;have oF:=(oF4.below hb5).below hb6;have oT:=(oT4.below hb5).below hb6;have hbq:=hb05.trans (hb6.mono hb05.size);obtain⟨bs,hbs0⟩:∃bs,JR.qbd++ptl (mpt none mn 0 md)=bs:=⟨_,rfl⟩;have hbl8:8+(ptl (mpt none mn 0 md)).length=bs.length:=by rw[<-hbs0,zlb];rfl
     have HBs:Hid (bs=JR.qbd++qbw (qg8 true none md.length 0 md)):=hid (by rw[<-hbs0,hmdl];show _=JR.qbd++qbw [_];rw[qcp]);have oB:=oB6;rw[hbs0,hbl8] at oB;rw[hbl8];have hbsb:bs.length<=23000:=by omega
     clear oM oM5 rM5 o5 r5 hb5 hb6 hb05 oB6 hb04 oF4 oT4 hbs0 hbl8 hpl5 hpl6 e5 hmdl;by_cases ht0:tn=0
     case' pos=>
      have hti:¬(0:Int)<(tn:Int):=by omega
      obtain⟨pre,hpre⟩:∃pre,JR.qbd++(qbw (qg8 true none md.length 0 md)++qbw (qfr none (bo (nms xs)).length 0 (bo (nms xs))))=pre:=⟨_,rfl⟩;have HPre:=hid hpre;have hplen:=qt3 true md (bo (nms xs)) (by have:=Hmd.out.1;omega) (by have:=hlen.out;have:=hnl.out;omega);rw[hpre] at hplen;have HBase:Hid (pre.length=qez true md.length xs):=hid hplen
      have hpb:pre.length<=71600:=by
       have h1:=hlen.out;have h2:=hnl.out;have h3:=Hmd.out.1;rw[hplen];unfold pz;split<;>split<;>omega
      clear hplen;have hbs:pre=bs:=by rw[HBs.out,<-hpre,HTn.out,ht0];simp[qfr,qbw]
      subst hbs;clear hpre;go_wp2_with fail
      generalize w6=wq at *;generalize A6=Ab at *;generalize c6=cb at *
     case' neg=>
      have hti:(0:Int)<(tn:Int):=by omega
      obtain⟨_,_,eT,rT,_⟩:=oT.reads;injection eT with eT1 _ eT3;subst eT1 eT3;go_wp2_with fail
      refine (qkb ⟨#[47,47]⟩ 0 0 0 0 0 w6.heap.size _ tn ct (bo (nms xs)) w6 rT zjn (by omega) (by show (2:Nat)<=1000;decide) (by decide) (by decide) (by decide) (by decide)).mono ?_;rintro e w7 ⟨v7,rfl,o7,hb7⟩;obtain⟨A7,c7,rfl,r7,_⟩:=o7.reads;have oB7:=oB.below hb7;obtain⟨_,_,eB,rB7,_⟩:=oB7.reads;injection eB with eB1 _ eB3;subst eB1 eB3;go_wp2_with fail
      have hpl7:=(qff (x:=tpt none tn 0 (bo (nms xs))) (qgy (by omega)) HTn.out).2;have e7:mkp ⟨#[47,47]⟩ (num 0 0 0 0 (tn:Int)) (bo (nms xs))=ptl (tpt none tn 0 (bo (nms xs))):=rfl;rw[e7] at o7 r7 |-;have hpl8:(ptl (tpt none tn 0 (bo (nms xs)))).length<=53000:=by rw[hpl7];show 60+tn+tn%2<=53000;omega
      refine (JB.qg7 w7.heap.size w7.heap.size _ A7 bs.length _ (ptl (tpt none tn 0 (bo (nms xs)))).length c7 bs _ w7 rB7 r7 zjn zjn (by omega) (by omega)).mono ?_;rintro e w8 ⟨v8,rfl,oB8,hb8⟩;obtain⟨A8,c8,rfl,_⟩:=oB8.reads;have hb07:=hbq.trans (hb7.mono hbq.size);have oF8:=(oF.below hb7).below hb8;replace oB8:=oB8.more hb07.size;have hb08:=hb07.trans (hb8.mono hb07.size);clear oB oB7 rB7 r7 o7 hb7 hb8 hb07 oF hbq oT rT hpl7 hpl8 e7;have oB:=oB8;have oF:=oF8;have hbq:=hb08;clear oB8 oF8 hb08;obtain⟨pre,hpre⟩:∃pre,JR.qbd++(qbw (qg8 true none md.length 0 md)++qbw (qfr none (bo (nms xs)).length 0 (bo (nms xs))))=pre:=⟨_,rfl⟩;have HPre:=hid hpre;have hplen:=qt3 true md (bo (nms xs)) (by have:=Hmd.out.1;omega) (by have:=hlen.out;have:=hnl.out;omega);rw[hpre] at hplen;have HBase:Hid (pre.length=qez true md.length xs):=hid hplen
      have hpb:pre.length<=71600:=by
       have h1:=hlen.out;have h2:=hnl.out;have h3:=Hmd.out.1;rw[hplen];unfold pz;split<;>split<;>omega
      clear hplen;have hbs:bs++ptl (tpt none tn 0 (bo (nms xs)))=pre:=by rw[HBs.out,<-hpre,HTn.out,show qfr none tn 0 (bo (nms xs))=[tpt none tn 0 (bo (nms xs))] from if_neg ht0,qcp,zln]
      have hbl:bs.length+(ptl (tpt none tn 0 (bo (nms xs)))).length=pre.length:=by rw[<-hbs,zlb]
      rw[hbs,hbl] at oB;rw[hbl];clear hpre hbs hbl;go_wp2_with fail
      generalize w8=wq at *;generalize A8=Ab at *;generalize c8=cb at *
    all_goals
     have hKo:pre.length<=71600:=hpb;have HOf:=hid (fun k (hk:k<=n)=>Qe7 (o:=pre.length) (xs:=xs) (by have:=Hl.out;omega) Hsum.out k (by have:=Hl.out;omega));have HFl:=hid (qrg Hfit.out (by have:=Hl.out;omega) Hxl.out pre.length)
     have hst:JB.Own wq w.heap.size (.slice Ab (qab pre.length xs 0) cb) (qab pre.length xs 0) (pre++qbw ((qb5 xs).take 0)):=by
      rw[show qab pre.length xs 0=pre.length by simp[qab],List.take_zero,qt1,zlJ];exact oB
     have hlb:Hid (pre.length=qab pre.length xs 0):=hid (by simp[qab]);clear oB hpb;go_loopw [18,17,16] (fun i f v W=>∃(k:Nat)(A1:Option Addr)(c1:Nat)(A2:Option Addr)(c2:Nat),i=.int .i64 (k:Int)/\f=.slice A1 k c1/\v=.slice A2 (qab pre.length xs k) c2/\k<=n/\JC.Own 3 1 W w.heap.size (.slice A1 k c1) k (qd0 ((List.range k).map (qab pre.length xs)))/\JB.Own W w.heap.size (.slice A2 (qab pre.length xs k) c2) (qab pre.length xs k) (pre++qbw ((qb5 xs).take k))/\JS.Own W w.heap.size (.slice Af n cf) n (fo (nms xs))/\Below w.heap.size w W) (fun i _ _ _=>n-(intOf i).toNat)
     case atStart=>exact⟨0,none,0,Ab,cb,rfl,rfl,by rw[<-hlb.out],by omega,JC.Own.nil _ _ _ _,hst,oF,hbq⟩
     case round=>
      obtain⟨k,A1,c1,A2,c2,rfl,rfl,rfl,hk,hO,hB,hF,hb⟩:=hrel;by_cases hlt:k<n
      ·have hkl:k<xs.length:=by have:=Hl.out;omega
       have hki:(k:Int)<(n:Int):=by omega
       obtain⟨⟨b,o,rfl,hbK,hcell⟩,hxd,_⟩:=(h.below (hb.mono hK)).2 k hkl;have HBa:=hid (qgz Hfit.out hkl);have HBl:=hid (qb2 Hfit.out);obtain⟨fk,hfk⟩:∃fk,fld ((nms xs).take k) xs[k].name=fk:=⟨_,rfl⟩;have HFk:Hid ((fo (nms xs))[k]?=some fk):=hid (by rw[<-hfk];exact fo_at Hfit.out hkl);have hxk:=hok xs[k] (zlq hkl)
       have hnf:fk.size<=16:=by
        obtain⟨k',hk',e,_,hs⟩:=qt2 Hfit.out (by have:=Hl.out;omega) (zlq (h:=show k<(qb5 xs).length by rw[HBl.out];exact hkl));rw[HBa.out,hfk] at hs;exact hs
       have HT:Hid (qd0 ((List.range (k+1)).map (qab pre.length xs))=qd0 ((List.range k).map (qab pre.length xs))++[.int .i64 (qab pre.length xs k:Int)]):=hid (by rw[List.range_succ];simp[qd0])
       have HS:Hid (pre++qbw ((qb5 xs).take (k+1))=(pre++qbw ((qb5 xs).take k))++mkp fk (num xs[k].time xs[k].uid xs[k].gid xs[k].mode (xs[k].len:Int)) xs[k].data):=hid (by
        rw[qpk (by rw[HBl.out];exact hkl),HBa.out,hfk,<-zln];rfl)
       have HN:Hid (qab pre.length xs (k+1)=qab pre.length xs k+(mkp fk (num xs[k].time xs[k].uid xs[k].gid xs[k].mode (xs[k].len:Int)) xs[k].data).length):=hid (by
        have q:=(qff (qka Hfit.out (by have:=Hl.out;omega) hkl) (by exact Hxl.out xs[k] (zlq hkl))).2;rw[hfk] at q;rw[qcn hkl];exact congrArg _ q.symm)
       have hof:=HOf.out k hk;have hml:=hid (HOf.out (k+1) (by omega));clear hfk HBa HBl;generalize xs[k]=x at *;obtain⟨x0,x1,x2,x3,x4,x5,x6,x7,x8⟩:=x;obtain⟨p0,p1,p2,p3,p4,p5⟩:=hcell;obtain⟨_,q2,q3,q4,q5,q6⟩:=hxk;simp only at *;generalize hL:mkp fk (num x1 x2 x3 x4 (x6:Int)) x8=L at *;have HL:=hid hL;rw[HN.out] at hml;clear hL;obtain⟨ok,hok2⟩:∃ok,qab pre.length xs k=ok:=⟨_,rfl⟩;obtain⟨on,hon⟩:∃on,qab pre.length xs (k+1)=on:=⟨_,rfl⟩;have HON:=hid hon;rw[hok2] at hB hof hml HN HT |-;rw[hon] at HN;clear hok2 hon;go_upto_region 20 with (at_builtin;go_must (refine JC.qa4 kI wr w.heap.size (.slice A1 k c1) k _ hO hb.size 1 1 #[.int .i64 (ok:Int)] (0,0) rfl (by simp[Value.oneCell']) (by omega) (by omega) rfl (.tmp 68) (.tmp 71) rfl rfl rfl ?_);intro v3 w3' hO3 hb3 hot3 _;obtain⟨A3,c3,rfl,_⟩:=hO3.reads)
       rw[show qd0 ((List.range k).map (qab pre.length xs))++#[Value.int .i64 (ok:Int)].toList=qd0 ((List.range (k+1)).map (qab pre.length xs)) by rw[HT.out]] at hO3;have hF3:=qbb hF hot3 (by decide);have hB3:=qai hB hot3 (by decide);have hb03:=hb.trans hb3;have hbK3:b<w.heap.size:=by omega
       have r0:=(qbi (o:=o+k * 6) (hb3.block b hbK3)).trans p0;have r1:=(qbi (o:=o+k * 6+1) (hb3.block b hbK3)).trans p1;have r2:=(qbi (o:=o+k * 6+2) (hb3.block b hbK3)).trans p2;have r3:=(qbi (o:=o+k * 6+3) (hb3.block b hbK3)).trans p3;have r4:=(qbi (o:=o+k * 6+4) (hb3.block b hbK3)).trans p4;have r5:=(qbi (o:=o+k * 6+5) (hb3.block b hbK3)).trans p5;have hxd3:=hxd.below (hb3.mono hK);obtain⟨b',o',ef,hb',hfc,hcf⟩:=fo_get hF3 hlt HFk.out;subst ef;have hs3:=hb03.size;clear hO hB hF hot3 hb3 p0 p1 p2 p3 p4 p5 hb hxd;refine Ord.qaf.begin (fun W'=>W'.cell? ⟨b,o+k * 6,none⟩=some (.string x0)/\W'.cell? ⟨b,o+k * 6+1,none⟩=some (.int .i64 x1)/\W'.cell? ⟨b,o+k * 6+2,none⟩=some (.int .i64 x2)/\W'.cell? ⟨b,o+k * 6+3,none⟩=some (.int .i64 x3)/\W'.cell? ⟨b,o+k * 6+4,none⟩=some (.int .i64 x4)/\W'.cell? ⟨b,o+k * 6+5,none⟩=some (.slice x5 x6 x7)/\W'.cell? ⟨b',o'+k,none⟩=some (.string fk)) 60 (by kernel_rfl) ?_;have hS0:(fun W'=>W'.cell? ⟨b,o+k * 6,none⟩=some (.string x0)/\W'.cell? ⟨b,o+k * 6+1,none⟩=some (.int .i64 x1)/\W'.cell? ⟨b,o+k * 6+2,none⟩=some (.int .i64 x2)/\W'.cell? ⟨b,o+k * 6+3,none⟩=some (.int .i64 x3)/\W'.cell? ⟨b,o+k * 6+4,none⟩=some (.int .i64 x4)/\W'.cell? ⟨b,o+k * 6+5,none⟩=some (.slice x5 x6 x7)/\W'.cell? ⟨b',o'+k,none⟩=some (.string fk)) w3'.drew:=⟨r0,r1,r2,r3,r4,r5,hfc⟩;refine zjV 0 73 hS0 ?_;refine zjV 1 74 hS0 ?_;refine zjV 2 75 hS0 ?_;refine zjV 3 76 hS0 ?_;refine zjV 4 77 hS0 ?_;refine zjV 5 78 hS0 ?_;refine zjV 6 79 hS0 ?_;refine zjV 7 80 hS0 ?_;refine zjV 8 81 hS0 ?_;refine zjV 9 82 hS0 ?_;refine zjV 10 83 hS0 ?_;refine zjV 11 84 hS0 ?_;refine zjV 12 85 hS0 ?_;refine zjV 13 86 hS0 ?_;refine zjV 14 87 hS0 ?_;refine zjV 15 88 hS0 ?_;refine zjV 16 89 hS0 ?_;refine zjV 17 90 hS0 ?_;refine zjV 18 91 hS0 ?_;refine zjV 19 92 hS0 ?_;refine zjV 20 93 hS0 ?_;refine zjV 21 94 hS0 ?_;refine zjV 22 95 hS0 ?_;refine zjV 23 96 hS0 ?_;refine zjV 24 97 hS0 ?_;refine zjV 25 98 hS0 ?_;refine zjV 26 99 hS0 ?_;refine zjV 27 100 hS0 ?_;refine zjV 28 101 hS0 ?_;refine zjV 29 102 hS0 ?_;refine zjV 30 103 hS0 ?_;refine Ord.qaf.step 31 (by kernel_rfl) rfl (fun C hC=>?_);go_simp;go_at_call 101;refine (qkb fk x1 x2 x3 x4 0 K x5 x6 x7 x8 w3'.drew (hxd3.drewN 1) (show K<=w3'.heap.size by omega) (by omega) (by omega) q3 q4 q5 q6).mono ?_;rw[HL.out];rintro e w4' ⟨v4,rfl,o4,hb4⟩;have hb4':Below w3'.heap.size w3' w4':=(Below.refl _ _).drew.trans hb4;obtain⟨A4,c4,rfl,r4',_⟩:=o4.reads;have hO4:=hO3.below hb4';have hB4:=hB3.below hb4';have hF4:=hF3.below hb4';have hb04:=hb03.trans (hb4'.mono hs3);have hs4:=hb4'.size;have hS4:(fun W'=>W'.cell? ⟨b,o+k * 6,none⟩=some (.string x0)/\W'.cell? ⟨b,o+k * 6+1,none⟩=some (.int .i64 x1)/\W'.cell? ⟨b,o+k * 6+2,none⟩=some (.int .i64 x2)/\W'.cell? ⟨b,o+k * 6+3,none⟩=some (.int .i64 x3)/\W'.cell? ⟨b,o+k * 6+4,none⟩=some (.int .i64 x4)/\W'.cell? ⟨b,o+k * 6+5,none⟩=some (.slice x5 x6 x7)/\W'.cell? ⟨b',o'+k,none⟩=some (.string fk)) w4':=⟨(qbi (hb4'.block b (by omega))).trans r0,(qbi (hb4'.block b (by omega))).trans r1,(qbi (hb4'.block b (by omega))).trans r2,(qbi (hb4'.block b (by omega))).trans r3,(qbi (hb4'.block b (by omega))).trans r4,(qbi (hb4'.block b (by omega))).trans r5,(qbi (hb4'.block b' hb')).trans hfc⟩;go_wp2_with fail
       refine hC.out _ _ (fun _=>hS4) ?_;clear hC C hS0 hO3 hB3 hF3 hb03 hb4 o4;try simp only[zjA]
       obtain⟨_,_,eB,rB4,_⟩:=hB4.reads;injection eB with eB1 _ eB3;subst eB1 eB3;refine Ord.qaf.step 32 (by kernel_rfl) rfl (fun C hC=>?_);go_simp;go_at_call 100;refine (JB.qg7 w4'.heap.size w4'.heap.size A2 A4 ok c2 L.length c4 _ L w4' rB4 r4' zjn zjn (by omega) (by have:=hml.out;omega)).mono ?_;rintro e w5' ⟨v5,rfl,o5,hb5⟩;obtain⟨A5,c5,rfl,_⟩:=o5.reads;replace o5:=o5.more hb04.size;have hO5:=hO4.below hb5;have hF5:=hF4.below hb5;have hb05:=hb04.trans (hb5.mono hb04.size)
       have hS5:(fun W'=>W'.cell? ⟨b,o+k * 6,none⟩=some (.string x0)/\W'.cell? ⟨b,o+k * 6+1,none⟩=some (.int .i64 x1)/\W'.cell? ⟨b,o+k * 6+2,none⟩=some (.int .i64 x2)/\W'.cell? ⟨b,o+k * 6+3,none⟩=some (.int .i64 x3)/\W'.cell? ⟨b,o+k * 6+4,none⟩=some (.int .i64 x4)/\W'.cell? ⟨b,o+k * 6+5,none⟩=some (.slice x5 x6 x7)/\W'.cell? ⟨b',o'+k,none⟩=some (.string fk)) w5':=by
        obtain⟨s0,s1,s2,s3,s4,s5,s6⟩:=hS4;exact⟨(qbi (hb5.block b (by omega))).trans s0,(qbi (hb5.block b (by omega))).trans s1,(qbi (hb5.block b (by omega))).trans s2,(qbi (hb5.block b (by omega))).trans s3,(qbi (hb5.block b (by omega))).trans s4,(qbi (hb5.block b (by omega))).trans s5,(qbi (hb5.block b' (by omega))).trans s6⟩
       go_wp2_with fail
       refine hC.out _ _ (fun _=>hS5) ?_;clear hC C hS4 hO4 hB4 hF4 hb04 hb5 rB4 r4';try simp only[zjA]
       refine Ord.qaf.step 33 (by kernel_rfl) rfl (fun C hC=>?_);go_simp;refine hC.out _ _ (fun _=>hS5) ?_;clear hC C;try simp only[zjA]
       refine Ord.qaf.done (by kernel_rfl) ?_ _;clear hS5 r0 r1 r2 r3 r4 r5 hfc hb';rw[<-HN.out,<-HS.out] at o5;rw[<-HN.out];go_wp2_with fail
       go_roundw
       all_goals first
        |exact⟨k+1,A3,c3,A5,c5,by go_num,rfl,by rw[HON.out],by omega,hO5,by rw[HON.out];exact o5,hF5,hb05⟩
        |(simp[intOf];omega)
      ·obtain rfl:k=n:=by omega
       have hTk:(qb5 xs).take k=qb5 xs:=zlj (by rw[qb2 Hfit.out];have:=Hl.out;omega);have hfo:=HFl.out k (by have:=Hl.out;omega);rw[hTk] at hB hfo;have HR:=hid (qpn.fin (hm:=_) HF0.out HPre.out HBase.out Hl.out hfo hO hB hb);clear hfo hO hB hb hTk;generalize qab pre.length xs k=ok at *;go_wp2_with fail
       go_ret3
       exact HR.out
 ·have HR:Hid (∀W,Below w.heap.size w W->qpn hm md xs w (.returned (.tuple #[.slice none 0 0,.slice none 0 0,.int .i64 f2])) W):=hid (fun W hb=>by
   have h2:¬(qbe 0 xs).2=0:=by rw[hf];exact hz
   have e1:Qbc hm md xs=[]:=if_neg h2;refine⟨.slice none 0 0,none,0,0,by rw[hf],?_,?_,hb⟩
   ·rw[e1];exact JB.Own.nil _ _
   ·rw[if_neg h2];exact JC.Own.nil _ _ _ _)
  clear hf;go_wp2_with fail
  go_ret3
  exact HR.out _ hb1
def nA:ByteArray:=⟨#[97,46,111]⟩
def nL:ByteArray:=⟨#[97,45,118,101,114,121,45,108,111,110,103,45,110,97,109,101,46,111]⟩
def m1 (g:Nat):Mem:=⟨nA,0,0,0,0,some ⟨g,0,none⟩,1,1,[120]⟩
def m2:Mem:=⟨nL,0,0,0,0,none,0,0,[]⟩
end JW
end Go.Proofs.YtlmolmohhpdhdaaGreatDoor
