/-
  arwrite:
-/
import Derived.Test.YtkegpjjehejaoaaGreatDoorYWf
import Derived.Test.YtkegpjjehejaoaaGreatDoorYWa
set_option maxRecDepth 100000
set_option maxHeartbeats 16000000
set_option linter.unusedSimpArgs false
set_option linter.unusedVariables false
namespace Go.Proofs.YtkegpjjehejaoaaGreatDoor
open Go.RowKit Go.Proofs
namespace JW
open JB JD JN JH JR
open JS (Fr blk)
theorem qxz:∀{ps:List Mem},(∀y∈ps,(ptl y).length≤61+y.len)→(qbt ps).length≤ps.length * 61+lens ps
 |[],_=>by simp[qbt]
 |x::r,h=>by
  have h1:=qxz (ps:=r) fun y hy=>h y (List.mem_cons_of_mem _ hy)
  have h2:=h x List.mem_cons_self
  have e:qbt (x::r)=ptl x++qbt r:=by simp[qbt]
  have e2:lens (x::r)=x.len+lens r:=by simp[lens]
  rw[e,e2,List.length_append,List.length_cons,Nat.succ_mul]
  omega
theorem qzs {xs:List Mem}(hfit:∀x∈xs,qcm x=0):lens (qb4 xs)=lens xs:=by
 unfold lens
 congr 1
 apply List.ext_getElem
 ·rw[List.length_map,List.length_map,qaz hfit]
 ·intro i h1 h2
  rw[List.length_map] at h2
  rw[List.getElem_map,List.getElem_map,qgu hfit h2]
  rfl
theorem qu1 {o:Nat}{xs:List Mem}:∀k,k≤xs.length→qaa o xs k≤o+k * 61+lens (xs.take k)
 |0,_=>by simp[qaa]
 |k+1,h=>by
  rw[qcn h]
  have h1:=qu1 (o:=o) (xs:=xs) k (by omega)
  have h2:lens (xs.take (k+1))=lens (xs.take k)+xs[k].len:=by
   unfold lens
   rw[List.take_succ_eq_append_getElem h,List.map_append,List.sum_append]
   simp
  unfold pz
  omega
theorem Qcr (xs:List Mem)(k:Nat):lens (xs.take k)≤lens xs:=by
 have h:lens xs=lens (xs.take k)+lens (xs.drop k):=by
  unfold lens
  rw[←List.sum_append,←List.map_append,List.take_append_drop]
 omega
theorem Qcs {o:Nat}{xs:List Mem}(hn:xs.length≤200)(hs:lens xs≤15000)(k:Nat)(hk:k≤xs.length):qaa o xs k≤o+27200:=by
 have h1:=qu1 (o:=o) k hk
 have h2:=Qcr xs k
 omega
theorem qs6 {xs:List Mem}(hfit:∀x∈xs,qcm x=0)(hn:xs.length≤200){y:Mem}(hy:y∈qb4 xs):∃(k:Nat)(hk:k<xs.length),y=setN (fld ((nms xs).take k) xs[k].name) xs[k]∧qw9 y=0∧y.name.size≤16:=by
 obtain⟨k,hk,rfl⟩:=List.mem_iff_getElem.1 hy
 have hk':k<xs.length:=by rw[qaz hfit] at hk;exact hk
 refine⟨k,hk',qgu hfit hk',?_⟩
 rw[qgu hfit hk']
 refine⟨qjp hfit (by omega) hk',?_⟩
 have hv:=(qib (hfit xs[k] (List.getElem_mem hk'))).1
 have hal:qhd ((nms xs).take k)=true:=qbu.2 fun n hm=>qbu.1 (qfp hfit) n (List.mem_of_mem_take hm)
 have hl:=qha hal (k:=202) (by rw[List.length_take];simp[nms];omega)
 have:=(qbz.1 (Qcn (pre:=(nms xs).take k) hv (by omega)).1).2.1
 exact this
theorem qu2 {hm:Bool}{md:List UInt8}{xs:List Mem}(hfit:∀x∈xs,qcm x=0)(hn:xs.length≤200)(_hok:∀x∈xs,MOk x)(hl:∀x∈xs,x.data.length=x.len)(hmd:md.length≤20000)(hs:lens xs≤15000):
 (qbt (qfy hm none md.length 0 md)).length≤20061∧(qbt (qfi none (bo (nms xs)).length 0 (bo (nms xs)))).length≤51461∧(qbt (qb4 xs)).length≤27200:=by
 refine⟨?_,?_,?_⟩
 ·cases hm
  ·simp[qfy,qbt]
  ·show (qbt [_]).length≤20061
   rw[qcp,(qf9 (x:=mpt none md.length 0 md) (qic (by omega)) rfl).2]
   show 60+md.length+md.length%2≤20061
   omega
 ·have hb:=qp1 (nms xs)
  have hnl:(nms xs).length=xs.length:=by simp[nms]
  unfold qfi
  split
  ·simp[qbt]
  ·rw[qcp,(qf9 (x:=tpt none (bo (nms xs)).length 0 (bo (nms xs))) (qgt (by omega)) rfl).2]
   show 60+(bo (nms xs)).length+(bo (nms xs)).length%2≤51461
   omega
 ·have:=qxz (ps:=qb4 xs) fun y hy=>by
   obtain⟨k,hk,e,he,_⟩:=qs6 hfit hn hy
   have h1:y.len=xs[k].len:=by rw[e];rfl
   have h2:y.data=xs[k].data:=by rw[e];rfl
   rw[(qf9 he (by rw[h1,h2];exact hl _ (List.getElem_mem hk))).2]
   omega
  rw[qaz hfit,qzs hfit] at this
  omega
theorem arch_len {hm:Bool}{md:List UInt8}{xs:List Mem}(hfit:∀x∈xs,qcm x=0)(hn:xs.length≤200)(hok:∀x∈xs,MOk x)(hl:∀x∈xs,x.data.length=x.len)(hmd:md.length≤20000)(hs:lens xs≤15000):(qqd hm md xs).length≤99000:=by
 obtain⟨h1,h2,h3⟩:=qu2 (hm:=hm) hfit hn hok hl hmd hs
 unfold qqd
 rw[List.length_append,List.length_append,List.length_append]
 have:JR.qbp.length=8:=rfl
 omega
def qzt (hm:Bool)(md:List UInt8)(xs:List Mem):List UInt8:=if (qaw 0 xs).2=0 then qqd hm md xs else []
def Writes (hm:Bool)(md:List UInt8)(xs:List Mem)(w:World)(e:Ending)(w':World):Prop:=
 ∃v,e=.returned (.tuple #[v,.int .i64 (qaw 0 xs).2])∧JB.Own w' w.heap.size v (qzt hm md xs).length (qzt hm md xs)∧Below w.heap.size w w'
theorem qu3 {w:World}{v:Value}{B K:Nat}{x:Mem}(hr:JB.Rd w K x.ptr x.len x.data)(hK:K≤B)(hB:B<w.heap.size)(hv:∀k,blk v=some k→K≤k)(ho:POk x):PRd w v B x:=by
 refine⟨hr.more (by omega),fun a hn e=>?_,ho⟩
 obtain⟨b,o,e2,hl,_⟩:=hr.2 0 (by rw[hr.1];exact hn)
 rw[e] at e2
 injection e2 with e2
 subst e2
 exact⟨by show b≠B;omega,fun q=>by have:=hv _ q;simp only at this;omega⟩
theorem Qct {w:World}{v:Value}{B K:Nat}{x:Mem}(hr:JB.Own w K (.slice x.ptr x.len x.cap) x.len x.data)(hK:B<K)(hv:∀k,blk v=some k→k<K)(ho:POk x):PRd w v B x:=by
 obtain⟨A,c,e,hrd,_⟩:=hr.reads
 injection e with e1 _ e3
 rw[←e1] at hrd
 refine⟨hrd,fun a _ e=>?_,ho⟩
 have h1:K≤a.block:=hr.blk_ge (k:=a.block) (by rw[e];rfl)
 exact⟨by omega,fun q=>by have:=hv _ q;omega⟩
theorem Qcu (hm:Bool)(mA:Option Addr)(mn mc:Nat)(md:List UInt8)(Km K:Nat)(A:Option Addr)(n c:Nat)(xs:List Mem)(w:World)(hg:qe3 w)(hmd:JB.Rd w Km mA mn md)(hKm:Km≤w.heap.size)(hmn:mn≤20000)(h:RdM w K A n xs)(hK:K≤w.heap.size)(hok:∀x∈xs,MOk x)(hn:n≤200)(hsum:lens xs≤15000):
 Calls Tryz.prog 75 #[.bool hm,.slice mA mn mc,.slice A n c] w (Writes hm md xs w):=by
 have Hsum:=hid hsum
 clear hsum
 have Hl:=hid h.1
 have Hg:=hid hg
 have Hmd:=hid hmd
 clear hg hmd
 go_enter Tryz.func75,Tryz.ntmps75
 go_wp2_with fail
 refine (qp0 K A n c xs w h hK hok (by omega)).mono ?_
 rintro e w1 ⟨rfl,hb1⟩
 obtain⟨f1,f2,hf⟩:∃f1 f2,qaw 0 xs=(f1,f2):=⟨_,_,rfl⟩
 have HF:=hid hf
 rw[hf]
 by_cases hz:f2=0
 ·subst hz
  have hfit:=(qg8 0 xs).1 (by rw[hf])
  have Hfit:=hid hfit
  clear hf hfit
  have hs1:=hb1.size
  have kc:=Lib.run_convert_bytes_const (P:=Tryz.prog) w1 22 5 #[.int .u8 33,.int .u8 60,.int .u8 97,.int .u8 114,.int .u8 99,.int .u8 104,.int .u8 62,.int .u8 10] 8 8 Tryz.underlying22 Tryz.underlying5
  have hr1:=heap_alloc_new w1 (.cells #[.int .u8 33,.int .u8 60,.int .u8 97,.int .u8 114,.int .u8 99,.int .u8 104,.int .u8 62,.int .u8 10] 5 (8,9))
  have ho2:JB.Own (w1.alloc (.cells #[.int .u8 33,.int .u8 60,.int .u8 97,.int .u8 114,.int .u8 99,.int .u8 104,.int .u8 62,.int .u8 10] 5 (8,9))) w.heap.size (.slice (some ⟨w1.heap.size,0,none⟩) 8 8) 8 JR.qbp:=
   ⟨rfl,.inr ⟨w1.heap.size,8,_,(8,9),rfl,hs1,hr1,Nat.le_refl _,by unfold maxLen;omega,rfl,rfl,fun j hj=>by simp only;omega⟩⟩
  have hb2:Below w.heap.size w (w1.alloc (.cells #[.int .u8 33,.int .u8 60,.int .u8 97,.int .u8 114,.int .u8 99,.int .u8 104,.int .u8 62,.int .u8 10] 5 (8,9))):=hb1.alloc hs1 _
  have hs2:(w1.alloc (.cells #[.int .u8 33,.int .u8 60,.int .u8 97,.int .u8 114,.int .u8 99,.int .u8 104,.int .u8 62,.int .u8 10] 5 (8,9))).heap.size=w1.heap.size+1:=World.size_alloc _ _
  have hrow3:=heap_alloc_new (w1.alloc (.cells #[.int .u8 33,.int .u8 60,.int .u8 97,.int .u8 114,.int .u8 99,.int .u8 104,.int .u8 62,.int .u8 10] 5 (8,9))) (.cells #[.slice (some ⟨w1.heap.size,0,none⟩) 8 8] 190)
  have ho3:=ho2.alloc (.cells #[.slice (some ⟨w1.heap.size,0,none⟩) 8 8] 190)
  have hb3:=hb2.alloc hb2.size (.cells #[.slice (some ⟨w1.heap.size,0,none⟩) 8 8] 190)
  have hs3:((w1.alloc (.cells #[.int .u8 33,.int .u8 60,.int .u8 97,.int .u8 114,.int .u8 99,.int .u8 104,.int .u8 62,.int .u8 10] 5 (8,9))).alloc (.cells #[.slice (some ⟨w1.heap.size,0,none⟩) 8 8] 190)).heap.size=w1.heap.size+2:=by rw[World.size_alloc,hs2]
  rw[hs2] at hrow3
  clear hr1 ho2 hb2 hs2
  go_upto_region 5 with fail
  generalize (w1.alloc (.cells #[.int .u8 33,.int .u8 60,.int .u8 97,.int .u8 114,.int .u8 99,.int .u8 104,.int .u8 62,.int .u8 10] 5 (8,9))).alloc (.cells #[.slice (some ⟨w1.heap.size,0,none⟩) 8 8] 190)=w3 at *
  generalize w1.heap.size=g at *
  clear kc hb1
  go_wp2_with fail
  refine (Qcq hm mA mn mc md K A n c xs w3 (Hg.out.on hb3) (h.below (hb3.mono hK)) (by omega) hok hn Hfit.out).mono ?_
  rintro e w4 ⟨AP,cP,At,ct,rfl,oP,oT,hb4⟩
  have hrow4:=(hb4.block (g+1) (by omega)).trans hrow3
  have ho4:=ho3.below hb4
  have hb04:=hb3.trans (hb4.mono (by omega))
  have hsz4:=hb4.size
  have h4:=h.below (hb04.mono hK)
  have hl4:∀x∈xs,x.data.length=x.len:=fun x hx=>by
   obtain⟨k,hk,rfl⟩:=List.mem_iff_getElem.1 hx
   exact (h4.2 k hk).2.1.1
  have hn':xs.length≤200:=by have:=Hl.out;omega
  have hmdl:md.length=mn:=Hmd.out.1
  have hPL:=qu2 (hm:=hm) Hfit.out hn' hok hl4 (by omega:md.length≤20000) Hsum.out
  have hx4:∀x∈qfy hm mA mn mc md++(qfi At (bo (nms xs)).length ct (bo (nms xs))++qb4 xs),PRd w4 (.slice (some ⟨g,0,none⟩) 8 8) (g+1) x:=fun x hx=>by
   rw[List.mem_append,List.mem_append] at hx
   rcases hx with hx|hx|hx
   ·have hh:hm=true:=by cases hm;(· simp[qfy] at hx);rfl
    subst hh
    obtain rfl:x=mpt mA mn mc md:=by simpa [qfy] using hx
    exact qu3 (K:=w.heap.size) ((Hmd.out.below (hb04.mono hKm)).more hKm) (by omega) (by omega) (fun k e=>by injection e with e;simp only at e;omega) ⟨qic (by omega),by show (1:Nat)≤1000;decide,by show mn≤100000;omega,by show (0:Int)<_;decide,by show (0:Int)<_;decide,by show (0:Int)<_;decide,by show (0:Int)<_;decide⟩
   ·have hb:=qp1 (nms xs)
    have hnl:(nms xs).length=xs.length:=by simp[nms]
    have hx':x=tpt At (bo (nms xs)).length ct (bo (nms xs)):=by
     unfold qfi at hx
     split at hx
     ·simp at hx
     ·simpa using hx
    subst hx'
    exact Qct (K:=w3.heap.size) oT (by omega) (fun k e=>by injection e with e;simp only at e;omega) ⟨qgt (by omega),by show (2:Nat)≤1000;decide,by show (bo (nms xs)).length≤100000;omega,by show (0:Int)<_;decide,by show (0:Int)<_;decide,by show (0:Int)<_;decide,by show (0:Int)<_;decide⟩
   ·obtain⟨k,hk,e,he,hnm⟩:=qs6 Hfit.out hn' hx
    have hmk:=hok xs[k] (List.getElem_mem hk)
    have hrd:=(h4.2 k hk).2.1
    have e1:x.ptr=xs[k].ptr:=by rw[e];rfl
    have e2:x.len=xs[k].len:=by rw[e];rfl
    have e3:x.data=xs[k].data:=by rw[e];rfl
    have e4:x.time=xs[k].time:=by rw[e];rfl
    have e5:x.uid=xs[k].uid:=by rw[e];rfl
    have e6:x.gid=xs[k].gid:=by rw[e];rfl
    have e7:x.mode=xs[k].mode:=by rw[e];rfl
    refine qu3 (K:=w.heap.size) (by rw[e1,e2,e3];exact hrd.more hK) (by omega) (by omega) (fun k e=>by injection e with e;simp only at e;omega) ⟨he,by omega,by have:=hmk.len;omega,by rw[e4];exact hmk.t,by rw[e5];exact hmk.u,by rw[e6];exact hmk.g,by rw[e7];exact hmk.m⟩
  have hflat:qbt (qfy hm mA mn mc md++(qfi At (bo (nms xs)).length ct (bo (nms xs))++qb4 xs))=qbt (qfy hm none mn 0 md)++(qbt (qfi none (bo (nms xs)).length 0 (bo (nms xs)))++qbt (qb4 xs)):=by
   rw[qd5,qd5,Qck,Qcm]
  have hA4:Apt (qfy hm mA mn mc md++(qfi At (bo (nms xs)).length ct (bo (nms xs))++qb4 xs)).length AP (.slice (some ⟨g,0,none⟩) 8 8) (g+1):=fun a _ e=>by
   have h1:w3.heap.size≤a.block:=by
    rcases oP.2 with ⟨q,_⟩|⟨g',_,_,_,q,hg',_⟩
    ·injection q with q;rw[e] at q;cases q
    ·injection q with q;rw[e] at q;injection q with q;subst q;exact hg'
   exact⟨by omega,fun q=>by injection q with q;simp only at q;omega⟩
  have hfl:8+(qbt (qfy hm mA mn mc md++(qfi At (bo (nms xs)).length ct (bo (nms xs))++qb4 xs))).length≤400000:=by
   rw[hflat,List.length_append,List.length_append]
   rw[hmdl] at hPL
   omega
  have hpn:(qfy hm mA mn mc md++(qfi At (bo (nms xs)).length ct (bo (nms xs))++qb4 xs)).length≤202:=by
   rw[List.length_append,List.length_append,qaz Hfit.out]
   have h1:(qfy hm mA mn mc md).length≤1:=by unfold qfy;split<;>simp
   have h2:(qfi At (bo (nms xs)).length ct (bo (nms xs))).length≤1:=by unfold qfi;split<;>simp
   omega
  have HW:Hid (qzt hm md xs=JR.qbp++qbt (qfy hm mA mn mc md++(qfi At (bo (nms xs)).length ct (bo (nms xs))++qb4 xs))):=hid (by
   unfold qzt qqd
   rw[HF.out,if_pos rfl,hflat,hmdl])
  clear hflat hPL oT hb3 hrow3 ho3 hmdl hl4 h4
  generalize qfy hm mA mn mc md++(qfi At (bo (nms xs)).length ct (bo (nms xs))++qb4 xs)=ps at *
  go_wp2_with fail
  refine (qu0 w.heap.size (g+1) _ 8 JR.qbp AP ps.length cP ps w4 hrow4 (by omega) ho4 (RdP.of oP) hA4 hx4 (by omega) hfl).mono ?_
  rintro e w5 ⟨rfl,v5,hrow5,ho5,hf5⟩
  obtain⟨A5,c5,rfl,_⟩:=ho5.reads
  have b5:=zjc (g+1) 0 hrow5
  go_wp2_with fail
  go_ret2
  refine⟨.slice A5 (8+(qbt ps).length) c5,by rw[HF.out];rfl,?_,hb04.trans hf5.below⟩
  rw[HW.out,show (JR.qbp++qbt ps).length=8+(qbt ps).length by rw[List.length_append];rfl]
  exact ho5
 ·have HW:Hid (qzt hm md xs=[]):=hid (by unfold qzt;rw[HF.out,if_neg hz])
  clear hf
  go_wp2_with fail
  go_ret2
  refine⟨.slice none 0 0,by rw[HF.out];rfl,?_,hb1⟩
  rw[HW.out]
  exact JB.Own.nil _ _
end JW
namespace JW
open JB JD JN JH JR
open JS (Fr blk)
theorem qjq (s:ByteArray)(t u g m z:Int)(K:Nat)(A:Option Addr)(n c:Nat)(d:List UInt8)(w:World)(hr:JB.Rd w K A n d)(hK:K≤w.heap.size)(hn:n≤90000)(hs:s.size≤1000)(l0:t<9223372036854775808)(l1:u<9223372036854775808)(l2:g<9223372036854775808)(l3:m<9223372036854775808):
 Calls Tryz.prog 59 #[.agg #[.string s,.int .i64 t,.int .i64 u,.int .i64 g,.int .i64 m,.int .i64 z],.slice A n c] w fun e w'=>∃v,e=.returned v∧JB.Own w' w.heap.size v (mkp s (num t u g m (n:Int)) d).length (mkp s (num t u g m (n:Int)) d)∧Below w.heap.size w w':=by
 have hdl:=hr.1
 have He:=hid fun W=>qnd s t u g m (n:Int) W (by omega) l0 l1 l2 l3 (by omega)
 unfold qcc at He
 have Hp:Hid (mkp s (num t u g m (n:Int)) d=qqa s (num t u g m (n:Int))++d++(if n%2=1 then [10] else [])):=hid (by unfold mkp;rw[hdl])
 have Hel:=hid (qvp s (num t u g m (n:Int)))
 generalize mkp s (num t u g m (n:Int)) d=L at *
 generalize qqa s (num t u g m (n:Int))=eb at *
 generalize qjb s (num t u g m (n:Int))=ee at *
 have hb0:=zjB w (.cells #[.string s,.int .i64 t,.int .i64 u,.int .i64 g,.int .i64 m,.int .i64 (n:Int)] 126)
 have hrow:=heap_alloc_new w (.cells #[.string s,.int .i64 t,.int .i64 u,.int .i64 g,.int .i64 m,.int .i64 (n:Int)] 126)
 go_enter Tryz.func59,Tryz.ntmps59
 go_upto_region 2 with fail
 generalize w.alloc (.cells #[.string s,.int .i64 t,.int .i64 u,.int .i64 g,.int .i64 m,.int .i64 (n:Int)] 126)=w0 at *
 have zzc:=fun k=>zjc w.heap.size k hrow
 have hs0:=hb0.size
 go_wp2_with fail
 refine (He.out _).mono ?_
 rintro e w1 ⟨v1,rfl,o1,hb1⟩
 obtain⟨A1,k1,rfl,r1,_⟩:=o1.reads
 have hb01:=hb0.trans (hb1.mono hs0)
 have hs1:=hb01.size
 clear zzc hrow o1
 go_wp2_with fail
 refine (JB.qfw w1.heap.size K A1 A eb.length k1 n c eb d w1 r1 (hr.below (hb01.mono hK)) zjn (by omega) (by have:=Hel.out;omega) (by omega)).mono ?_
 rintro e w2 ⟨v2,rfl,o2,hb2⟩
 obtain⟨A2,k2,rfl,_⟩:=o2.reads
 have hb02:=hb01.trans (hb2.mono hs1)
 replace o2:=o2.more hs1
 have hel:=Hel.out
 clear hb0 hb1 hb2 hs0 r1 hb01
 by_cases hodd:n%2=1
 ·have e1:(n:Int).tmod 2=1:=by have:(n:Int).tmod 2=((n%2:Nat):Int):=rfl;rw[this,hodd];rfl
  have e2:IntKind.i64.wrap 1=1:=by decide
  have HP:Hid (L=eb++d++[10]):=hid (by rw[Hp.out,if_pos hodd])
  clear hodd Hp
  go_wp2_with (at_builtin;go_must (refine JB.qa3 w2 w.heap.size (.slice A2 (eb.length+n) k2) (eb.length+n) _ 10 _ rfl o2 hb02.size (by omega) rfl (.tmp 22) (.tmp 23) rfl rfl rfl ?_);intro v3 w3 o3 hb3;obtain⟨A3,k3,rfl,_⟩:=o3.reads)
  go_ret
  have hl:L.length=eb.length+n+1:=by rw[HP.out,List.length_append,List.length_append,hdl];rfl
  refine⟨_,rfl,?_,hb02.trans hb3⟩
  rw[hl,HP.out]
  exact o3
 ·have h0:n%2=0:=by omega
  have e1:(n:Int).tmod 2=0:=by have:(n:Int).tmod 2=((n%2:Nat):Int):=rfl;rw[this,h0];rfl
  have e2:IntKind.i64.wrap 0=0:=by decide
  have HP:Hid (L=eb++d):=hid (by rw[Hp.out,if_neg hodd,List.append_nil])
  clear hodd Hp h0
  go_wp2_with fail
  go_ret
  have hl:L.length=eb.length+n:=by rw[HP.out,List.length_append,hdl]
  refine⟨_,rfl,?_,hb02⟩
  rw[hl,HP.out]
  exact o2
end JW
namespace JW
open JB JD JN JH JR
open JS (Fr blk Oth)
theorem qqm {xs:List Mem}(hfit:∀x∈xs,qcm x=0)(hn:xs.length≤200)(hl:∀x∈xs,x.data.length=x.len)(o:Nat):∀k,k≤xs.length→o+(qbt ((qb4 xs).take k)).length=qaa o xs k
 |0,_=>by simp[qbt,qaa]
 |k+1,h=>by
  have hk:k<xs.length:=by omega
  have hkb:k<(qb4 xs).length:=by rw[qaz hfit];exact hk
  have ih:=qqm hfit hn hl o k (by omega)
  rw[qp2 hkb,List.length_append,←Nat.add_assoc,ih,qcn hk,qgu hfit hk,(qf9 (qjp hfit (by omega) hk) (by exact hl xs[k] (List.getElem_mem hk))).2]
  rfl
theorem fo_get {xs:List Mem}{w:World}{K n c:Nat}{A:Option Addr}(ho:JS.Own w K (.slice A n c) n (fo (nms xs))){k:Nat}(hk:k<n){fk:ByteArray}(h:(fo (nms xs))[k]?=some fk):∃b o,A=some ⟨b,o,none⟩∧b<w.heap.size∧w.cell? ⟨b,o+k,none⟩=some (.string fk)∧n≤c:=by
 obtain⟨A',c',ef,hrd,hc,_⟩:=ho.reads
 injection ef with ef1 _ ef3
 subst ef1 ef3
 obtain⟨b,o,e,hb,hfc⟩:=hrd.2 k (by rw[hrd.1];exact hk)
 have hfe:(fo (nms xs))[k]'(by rw[hrd.1];exact hk)=fk:=by
  rw[List.getElem?_eq_getElem (by rw[hrd.1];exact hk)] at h
  injection h
 rw[hfe] at hfc
 exact⟨b,o,e,hb,hfc,hc⟩
def qp4 (hm:Bool)(md:List UInt8)(xs:List Mem)(w:World)(e:Ending)(w':World):Prop:=
 ∃v A n c,e=.returned (.tuple #[v,.slice A n c,.int .i64 (qaw 0 xs).2])∧JB.Own w' w.heap.size v (qzt hm md xs).length (qzt hm md xs)∧
  JC.Own 3 1 w' w.heap.size (.slice A n c) n (qcx (if (qaw 0 xs).2=0 then qkc (qec hm md.length xs) xs else []))∧Below w.heap.size w w'
theorem qp4.fin {hm:Bool}{md:List UInt8}{xs:List Mem}{w W:World}(hz:(qaw 0 xs).2=0){pre:List UInt8}(hpre:JR.qbp++(qbt (qfy hm none md.length 0 md)++qbt (qfi none (bo (nms xs)).length 0 (bo (nms xs))))=pre)(hln:pre.length=qec hm md.length xs)
 {A:Option Addr}{n c:Nat}{Ab:Option Addr}{lb cb:Nat}(hn:xs.length=n)(ho:pre.length+(qbt (qb4 xs)).length=lb)
 (h1:JC.Own 3 1 W w.heap.size (.slice A n c) n (qcx ((List.range n).map (qaa pre.length xs))))(h2:JB.Own W w.heap.size (.slice Ab lb cb) lb (pre++qbt (qb4 xs)))(h3:Below w.heap.size w W):
 qp4 hm md xs w (.returned (.tuple #[.slice Ab lb cb,.slice A n c,.int .i64 0])) W:=by
 have e1:qzt hm md xs=pre++qbt (qb4 xs):=by
  unfold qzt qqd
  rw[if_pos hz,←hpre,List.append_assoc,List.append_assoc]
 refine⟨.slice Ab lb cb,A,n,c,by rw[hz],?_,?_,h3⟩
 ·rw[e1,List.length_append,ho];exact h2
 ·rw[if_pos hz,←hln];unfold qkc;rw[hn];exact h1
theorem qs7 (hm:Bool)(md T:List UInt8)(hmd:md.length≤20000)(hT:T.length≤52000):(JR.qbp++(qbt (qfy hm none md.length 0 md)++qbt (qfi none T.length 0 T))).length=8+(if hm=true then pz md.length else 0)+(if T.length=0 then 0 else pz T.length):=by
 have h8:JR.qbp.length=8:=rfl
 have h1:(qbt (qfy hm none md.length 0 md)).length=if hm=true then pz md.length else 0:=by
  cases hm
  ·rfl
  ·show (qbt [_]).length=pz md.length
   rw[qcp,(qf9 (x:=mpt none md.length 0 md) (qic (by omega)) rfl).2]
   rfl
 have h2:(qbt (qfi none T.length 0 T)).length=if T.length=0 then 0 else pz T.length:=by
  unfold qfi
  split
  ·rfl
  ·rw[qcp,(qf9 (x:=tpt none T.length 0 T) (qgt (by omega)) rfl).2]
   rfl
 rw[List.length_append,List.length_append,h8,h1,h2]
 omega
theorem qqj (w:World):
 Calls Tryz.prog 57 #[] w fun e w'=>∃A c,e=.returned (.slice A 8 c)∧JB.Own w' w.heap.size (.slice A 8 c) 8 JR.qbp∧Below w.heap.size w w':=by
 go_enter Tryz.func57,Tryz.ntmps57
 have kc:=Lib.run_convert_bytes_const (P:=Tryz.prog) w 22 5 #[.int .u8 33,.int .u8 60,.int .u8 97,.int .u8 114,.int .u8 99,.int .u8 104,.int .u8 62,.int .u8 10] 8 8 Tryz.underlying22 Tryz.underlying5
 go_wp2_with fail
 go_ret
 exact⟨_,_,rfl,⟨rfl,.inr ⟨w.heap.size,8,_,(8,9),rfl,Nat.le_refl _,heap_alloc_new w _,Nat.le_refl _,by unfold maxLen;omega,rfl,rfl,fun j hj=>by simp only;omega⟩⟩,(Below.refl _ w).alloc zjn _⟩
theorem qzu (hm:Bool)(mA:Option Addr)(mn mc:Nat)(md:List UInt8)(Km K:Nat)(A:Option Addr)(n c:Nat)(xs:List Mem)(w:World)(hmd:JB.Rd w Km mA mn md)(hKm:Km≤w.heap.size)(hmn:mn≤20000)(h:RdM w K A n xs)(hK:K≤w.heap.size)(hok:∀x∈xs,MOk x)(hn:n≤200)(hsum:lens xs≤15000):
 Calls Tryz.prog 35 #[.bool hm,.slice mA mn mc,.slice A n c] w (qp4 hm md xs w):=by
 have Hsum:=hid hsum
 clear hsum
 have Hl:=hid h.1
 have Hmd:=hid hmd
 have Hxl:Hid (∀x∈xs,x.data.length=x.len):=hid fun x hx=>by
  obtain⟨k,hk,rfl⟩:=List.mem_iff_getElem.1 hx
  exact (h.2 k hk).2.1.1
 have hlen:=hid (qp1 (nms xs))
 have hnl:Hid ((nms xs).length=n):=hid (by simp[nms,Hl.out])
 clear hmd
 go_enter Tryz.func35,Tryz.ntmps35
 go_wp2_with fail
 refine (qqk K A n c xs w h hK hok (by omega)).mono ?_
 rintro e w1 ⟨rfl,hb1⟩
 obtain⟨f1,f2,hf⟩:∃f1 f2,qaw 0 xs=(f1,f2):=⟨_,_,rfl⟩
 rw[hf]
 by_cases hz:f2=0
 ·subst hz
  have HF0:Hid ((qaw 0 xs).2=0):=hid (by rw[hf])
  have Hfit:=hid ((qg8 0 xs).1 HF0.out)
  have hfl:Hid ((fo (nms xs)).length=n):=hid (by rw[show fo (nms xs)=qit [] (nms xs) from if_pos (qfp Hfit.out),qe0,hnl.out])
  clear hf
  go_wp2_with fail
  go_loopw [12,11] (fun i v W=>∃(k:Nat)(A1:Option Addr)(c1:Nat),i=.int .i64 (k:Int)∧v=.slice A1 k c1∧k≤n∧JS.Own W w.heap.size (.slice A1 k c1) k ((nms xs).take k)∧Below w.heap.size w W) (fun i _ _=>n-(intOf i).toNat)
  case atStart=>exact⟨0,none,0,rfl,rfl,by omega,by simpa using JS.Own.nil _ _,hb1⟩
  case round=>
   obtain⟨k,A1,c1,rfl,rfl,hk,hO,hb⟩:=hrel
   by_cases hlt:k<n
   ·have hkl:k<xs.length:=by have:=Hl.out;omega
    have hki:(k:Int)<(n:Int):=by omega
    obtain⟨⟨b,o,rfl,hbK,hcell⟩,_,_⟩:=(h.below (hb.mono hK)).2 k hkl
    have HT:Hid ((nms xs).take (k+1)=(nms xs).take k++[xs[k].name]):=hid (by rw[List.take_add_one,show (nms xs)[k]?=some xs[k].name by simp[nms,hkl]];rfl)
    generalize xs[k]=x at *
    obtain⟨x0,x1,x2,x3,x4,x5,x6,x7,x8⟩:=x
    obtain⟨p0,p1,p2,p3,p4,p5⟩:=hcell
    simp only at *
    go_wp2_with (at_builtin;go_must (refine JS.qa3 wr w.heap.size _ k _ x0 hO hb.size (by omega) rfl (.tmp 33) (.tmp 39) rfl rfl rfl ?_);intro v2 w2 ho2 hb2 _ _;obtain⟨A2,c2,rfl,_⟩:=ho2.reads)
    rw[←HT.out] at ho2
    have hb02:=hb.trans hb2
    clear hO hb hb2 p0 p1 p2 p3 p4 p5
    go_roundw
    all_goals first
     |exact⟨k+1,A2,c2,by go_num,by go_num,by omega,ho2,hb02⟩
     |(simp[intOf];omega)
   ·obtain rfl:k=n:=by omega
    have hT:(nms xs).take k=nms xs:=List.take_of_length_le (by simp[nms,Hl.out])
    rw[hT] at hO
    obtain⟨_,_,e1,hr1,_⟩:=hO.reads
    injection e1 with e11 _ e13
    subst e11 e13
    have HB:=hid (Qau wr.heap.size A1 k c1 (nms xs) wr hr1 zjn (by omega) (qxv hok))
    clear hT hO hr1
    go_wp2_with fail
    refine HB.out.mono ?_
    rintro e w3 ⟨vT,vF,rfl,oT,oF,hb3⟩
    obtain⟨At,ct,rfl,_⟩:=oT.reads
    obtain⟨Af,cf,rfl,_⟩:=oF.reads
    have hb03:=hb.trans (hb3.mono hb.size)
    replace oT:=oT.more hb.size
    replace oF:=oF.more hb.size
    rw[hfl.out] at oF
    obtain⟨tn,htn⟩:∃tn,(bo (nms xs)).length=tn:=⟨_,rfl⟩
    have HTn:=hid htn
    rw[htn,hfl.out]
    rw[htn] at oT
    have htb:tn≤52000:=by have:=hlen.out;rw[htn] at this;have:=hnl.out;omega
    have hs3:=hb03.size
    clear hb hb3 htn HB
    go_wp2_with fail
    refine (qqj w3).mono ?_
    rintro e w4 ⟨AM,cM,rfl,oM,hb4⟩
    have hb04:=hb03.trans (hb4.mono hs3)
    have oT4:=oT.below hb4
    have oF4:=oF.below hb4
    replace oM:=oM.more hs3
    clear hb4 hb03 hs3 oT oF
    obtain⟨n,hn0⟩:∃n,n=k:=⟨_,rfl⟩
    subst hn0
    cases hm
    case' false=>
     obtain⟨bs,hbs0⟩:∃bs,JR.qbp=bs:=⟨_,rfl⟩
     have hbl8:8=bs.length:=by rw[←hbs0];rfl
     have HBs:Hid (bs=JR.qbp++qbt (qfy false none md.length 0 md)):=hid (by rw[←hbs0];rfl)
     have oB:=oM
     rw[hbs0,hbl8] at oB
     rw[hbl8]
     have oT:=oT4
     have oF:=oF4
     have hbq:=hb04
     have hbsb:bs.length≤23000:=by omega
     clear oM oT4 oF4 hb04 hbs0 hbl8
     by_cases ht0:tn=0
     case' pos=>
      have hti:¬(0:Int)<(tn:Int):=by omega
      obtain⟨pre,hpre⟩:∃pre,JR.qbp++(qbt (qfy false none md.length 0 md)++qbt (qfi none (bo (nms xs)).length 0 (bo (nms xs))))=pre:=⟨_,rfl⟩
      have HPre:=hid hpre
      have hplen:=qs7 false md (bo (nms xs)) (by have:=Hmd.out.1;omega) (by have:=hlen.out;have:=hnl.out;omega)
      rw[hpre] at hplen
      have HBase:Hid (pre.length=qec false md.length xs):=hid hplen
      have hpb:pre.length≤71600:=by
       have h1:=hlen.out
       have h2:=hnl.out
       have h3:=Hmd.out.1
       rw[hplen]
       unfold pz
       split<;>split<;>omega
      clear hplen
      have hbs:pre=bs:=by rw[HBs.out,←hpre,HTn.out,ht0];simp[qfi,qbt]
      subst hbs
      clear hpre
      go_wp2_with fail
      generalize w4=wq at *
      generalize AM=Ab at *
      generalize cM=cb at *
     case' neg=>
      have hti:(0:Int)<(tn:Int):=by omega
      obtain⟨_,_,eT,rT,_⟩:=oT.reads
      injection eT with eT1 _ eT3
      subst eT1 eT3
      go_wp2_with fail
      refine (qjq ⟨#[47,47]⟩ 0 0 0 0 0 w4.heap.size _ tn ct (bo (nms xs)) w4 rT zjn (by omega) (by show (2:Nat)≤1000;decide) (by decide) (by decide) (by decide) (by decide)).mono ?_
      rintro e w7 ⟨v7,rfl,o7,hb7⟩
      obtain⟨A7,c7,rfl,r7,_⟩:=o7.reads
      have oB7:=oB.below hb7
      obtain⟨_,_,eB,rB7,_⟩:=oB7.reads
      injection eB with eB1 _ eB3
      subst eB1 eB3
      go_wp2_with fail
      have hpl7:=(qf9 (x:=tpt none tn 0 (bo (nms xs))) (qgt (by omega)) HTn.out).2
      have e7:mkp ⟨#[47,47]⟩ (num 0 0 0 0 (tn:Int)) (bo (nms xs))=ptl (tpt none tn 0 (bo (nms xs))):=rfl
      rw[e7] at o7 r7 ⊢
      have hpl8:(ptl (tpt none tn 0 (bo (nms xs)))).length≤53000:=by rw[hpl7];show 60+tn+tn%2≤53000;omega
      refine (JB.qfw w7.heap.size w7.heap.size _ A7 bs.length _ (ptl (tpt none tn 0 (bo (nms xs)))).length c7 bs _ w7 rB7 r7 zjn zjn (by omega) (by omega)).mono ?_
      rintro e w8 ⟨v8,rfl,oB8,hb8⟩
      obtain⟨A8,c8,rfl,_⟩:=oB8.reads
      have hb07:=hbq.trans (hb7.mono hbq.size)
      have oF8:=(oF.below hb7).below hb8
      replace oB8:=oB8.more hb07.size
      have hb08:=hb07.trans (hb8.mono hb07.size)
      clear oB oB7 rB7 r7 o7 hb7 hb8 hb07 oF hbq oT rT hpl7 hpl8 e7
      have oB:=oB8
      have oF:=oF8
      have hbq:=hb08
      clear oB8 oF8 hb08
      obtain⟨pre,hpre⟩:∃pre,JR.qbp++(qbt (qfy false none md.length 0 md)++qbt (qfi none (bo (nms xs)).length 0 (bo (nms xs))))=pre:=⟨_,rfl⟩
      have HPre:=hid hpre
      have hplen:=qs7 false md (bo (nms xs)) (by have:=Hmd.out.1;omega) (by have:=hlen.out;have:=hnl.out;omega)
      rw[hpre] at hplen
      have HBase:Hid (pre.length=qec false md.length xs):=hid hplen
      have hpb:pre.length≤71600:=by
       have h1:=hlen.out
       have h2:=hnl.out
       have h3:=Hmd.out.1
       rw[hplen]
       unfold pz
       split<;>split<;>omega
      clear hplen
      have hbs:bs++ptl (tpt none tn 0 (bo (nms xs)))=pre:=by rw[HBs.out,←hpre,HTn.out,show qfi none tn 0 (bo (nms xs))=[tpt none tn 0 (bo (nms xs))] from if_neg ht0,qcp,List.append_assoc]
      have hbl:bs.length+(ptl (tpt none tn 0 (bo (nms xs)))).length=pre.length:=by rw[←hbs,List.length_append]
      rw[hbs,hbl] at oB
      rw[hbl]
      clear hpre hbs hbl
      go_wp2_with fail
      generalize w8=wq at *
      generalize A8=Ab at *
      generalize c8=cb at *
    case' true=>
     go_wp2_with fail
     refine (qjq ⟨#[47]⟩ 0 0 0 0 0 Km mA mn mc md w4 (Hmd.out.below (hb04.mono hKm)) (by have:=hb04.size;omega) (by omega) (by show (1:Nat)≤1000;decide) (by decide) (by decide) (by decide) (by decide)).mono ?_
     rintro e w5 ⟨v5,rfl,o5,hb5⟩
     obtain⟨A5,c5,rfl,r5,_⟩:=o5.reads
     have oM5:=oM.below hb5
     obtain⟨_,_,eM,rM5,_⟩:=oM5.reads
     injection eM with eM1 _ eM3
     subst eM1 eM3
     go_wp2_with fail
     have hmdl:=Hmd.out.1
     have hpl5:=(qf9 (x:=mpt none mn 0 md) (qic (by omega)) hmdl).2
     have e5:mkp ⟨#[47]⟩ (num 0 0 0 0 (mn:Int)) md=ptl (mpt none mn 0 md):=rfl
     rw[e5] at o5 r5 ⊢
     have hpl6:(ptl (mpt none mn 0 md)).length≤22000:=by rw[hpl5];show 60+mn+mn%2≤22000;omega
     refine (JB.qfw w5.heap.size w5.heap.size _ A5 8 _ (ptl (mpt none mn 0 md)).length c5 JR.qbp _ w5 rM5 r5 zjn zjn (by omega) (by omega)).mono ?_
     rintro e w6 ⟨v6,rfl,oB6,hb6⟩
     obtain⟨A6,c6,rfl,_⟩:=oB6.reads
     have hb05:=hb04.trans (hb5.mono hb04.size)
     replace oB6:=oB6.more hb05.size
     have oF:=(oF4.below hb5).below hb6
     have oT:=(oT4.below hb5).below hb6
     have hbq:=hb05.trans (hb6.mono hb05.size)
     obtain⟨bs,hbs0⟩:∃bs,JR.qbp++ptl (mpt none mn 0 md)=bs:=⟨_,rfl⟩
     have hbl8:8+(ptl (mpt none mn 0 md)).length=bs.length:=by rw[←hbs0,List.length_append];rfl
     have HBs:Hid (bs=JR.qbp++qbt (qfy true none md.length 0 md)):=hid (by rw[←hbs0,hmdl];show _=JR.qbp++qbt [_];rw[qcp])
     have oB:=oB6
     rw[hbs0,hbl8] at oB
     rw[hbl8]
     have hbsb:bs.length≤23000:=by omega
     clear oM oM5 rM5 o5 r5 hb5 hb6 hb05 oB6 hb04 oF4 oT4 hbs0 hbl8 hpl5 hpl6 e5 hmdl
     by_cases ht0:tn=0
     case' pos=>
      have hti:¬(0:Int)<(tn:Int):=by omega
      obtain⟨pre,hpre⟩:∃pre,JR.qbp++(qbt (qfy true none md.length 0 md)++qbt (qfi none (bo (nms xs)).length 0 (bo (nms xs))))=pre:=⟨_,rfl⟩
      have HPre:=hid hpre
      have hplen:=qs7 true md (bo (nms xs)) (by have:=Hmd.out.1;omega) (by have:=hlen.out;have:=hnl.out;omega)
      rw[hpre] at hplen
      have HBase:Hid (pre.length=qec true md.length xs):=hid hplen
      have hpb:pre.length≤71600:=by
       have h1:=hlen.out
       have h2:=hnl.out
       have h3:=Hmd.out.1
       rw[hplen]
       unfold pz
       split<;>split<;>omega
      clear hplen
      have hbs:pre=bs:=by rw[HBs.out,←hpre,HTn.out,ht0];simp[qfi,qbt]
      subst hbs
      clear hpre
      go_wp2_with fail
      generalize w6=wq at *
      generalize A6=Ab at *
      generalize c6=cb at *
     case' neg=>
      have hti:(0:Int)<(tn:Int):=by omega
      obtain⟨_,_,eT,rT,_⟩:=oT.reads
      injection eT with eT1 _ eT3
      subst eT1 eT3
      go_wp2_with fail
      refine (qjq ⟨#[47,47]⟩ 0 0 0 0 0 w6.heap.size _ tn ct (bo (nms xs)) w6 rT zjn (by omega) (by show (2:Nat)≤1000;decide) (by decide) (by decide) (by decide) (by decide)).mono ?_
      rintro e w7 ⟨v7,rfl,o7,hb7⟩
      obtain⟨A7,c7,rfl,r7,_⟩:=o7.reads
      have oB7:=oB.below hb7
      obtain⟨_,_,eB,rB7,_⟩:=oB7.reads
      injection eB with eB1 _ eB3
      subst eB1 eB3
      go_wp2_with fail
      have hpl7:=(qf9 (x:=tpt none tn 0 (bo (nms xs))) (qgt (by omega)) HTn.out).2
      have e7:mkp ⟨#[47,47]⟩ (num 0 0 0 0 (tn:Int)) (bo (nms xs))=ptl (tpt none tn 0 (bo (nms xs))):=rfl
      rw[e7] at o7 r7 ⊢
      have hpl8:(ptl (tpt none tn 0 (bo (nms xs)))).length≤53000:=by rw[hpl7];show 60+tn+tn%2≤53000;omega
      refine (JB.qfw w7.heap.size w7.heap.size _ A7 bs.length _ (ptl (tpt none tn 0 (bo (nms xs)))).length c7 bs _ w7 rB7 r7 zjn zjn (by omega) (by omega)).mono ?_
      rintro e w8 ⟨v8,rfl,oB8,hb8⟩
      obtain⟨A8,c8,rfl,_⟩:=oB8.reads
      have hb07:=hbq.trans (hb7.mono hbq.size)
      have oF8:=(oF.below hb7).below hb8
      replace oB8:=oB8.more hb07.size
      have hb08:=hb07.trans (hb8.mono hb07.size)
      clear oB oB7 rB7 r7 o7 hb7 hb8 hb07 oF hbq oT rT hpl7 hpl8 e7
      have oB:=oB8
      have oF:=oF8
      have hbq:=hb08
      clear oB8 oF8 hb08
      obtain⟨pre,hpre⟩:∃pre,JR.qbp++(qbt (qfy true none md.length 0 md)++qbt (qfi none (bo (nms xs)).length 0 (bo (nms xs))))=pre:=⟨_,rfl⟩
      have HPre:=hid hpre
      have hplen:=qs7 true md (bo (nms xs)) (by have:=Hmd.out.1;omega) (by have:=hlen.out;have:=hnl.out;omega)
      rw[hpre] at hplen
      have HBase:Hid (pre.length=qec true md.length xs):=hid hplen
      have hpb:pre.length≤71600:=by
       have h1:=hlen.out
       have h2:=hnl.out
       have h3:=Hmd.out.1
       rw[hplen]
       unfold pz
       split<;>split<;>omega
      clear hplen
      have hbs:bs++ptl (tpt none tn 0 (bo (nms xs)))=pre:=by rw[HBs.out,←hpre,HTn.out,show qfi none tn 0 (bo (nms xs))=[tpt none tn 0 (bo (nms xs))] from if_neg ht0,qcp,List.append_assoc]
      have hbl:bs.length+(ptl (tpt none tn 0 (bo (nms xs)))).length=pre.length:=by rw[←hbs,List.length_append]
      rw[hbs,hbl] at oB
      rw[hbl]
      clear hpre hbs hbl
      go_wp2_with fail
      generalize w8=wq at *
      generalize A8=Ab at *
      generalize c8=cb at *
    all_goals
     have hKo:pre.length≤71600:=hpb
     have HOf:=hid (fun k (hk:k≤n)=>Qcs (o:=pre.length) (xs:=xs) (by have:=Hl.out;omega) Hsum.out k (by have:=Hl.out;omega))
     have HFl:=hid (qqm Hfit.out (by have:=Hl.out;omega) Hxl.out pre.length)
     have hst:JB.Own wq w.heap.size (.slice Ab (qaa pre.length xs 0) cb) (qaa pre.length xs 0) (pre++qbt ((qb4 xs).take 0)):=by
      rw[show qaa pre.length xs 0=pre.length by simp[qaa],List.take_zero,qs5,List.append_nil]
      exact oB
     have hlb:Hid (pre.length=qaa pre.length xs 0):=hid (by simp[qaa])
     clear oB hpb
     go_loopw [18,17,16] (fun i f v W=>∃(k:Nat)(A1:Option Addr)(c1:Nat)(A2:Option Addr)(c2:Nat),i=.int .i64 (k:Int)∧f=.slice A1 k c1∧v=.slice A2 (qaa pre.length xs k) c2∧k≤n∧JC.Own 3 1 W w.heap.size (.slice A1 k c1) k (qcx ((List.range k).map (qaa pre.length xs)))∧JB.Own W w.heap.size (.slice A2 (qaa pre.length xs k) c2) (qaa pre.length xs k) (pre++qbt ((qb4 xs).take k))∧JS.Own W w.heap.size (.slice Af n cf) n (fo (nms xs))∧Below w.heap.size w W) (fun i _ _ _=>n-(intOf i).toNat)
     case atStart=>exact⟨0,none,0,Ab,cb,rfl,rfl,by rw[←hlb.out],by omega,JC.Own.nil _ _ _ _,hst,oF,hbq⟩
     case round=>
      obtain⟨k,A1,c1,A2,c2,rfl,rfl,rfl,hk,hO,hB,hF,hb⟩:=hrel
      by_cases hlt:k<n
      ·have hkl:k<xs.length:=by have:=Hl.out;omega
       have hki:(k:Int)<(n:Int):=by omega
       obtain⟨⟨b,o,rfl,hbK,hcell⟩,hxd,_⟩:=(h.below (hb.mono hK)).2 k hkl
       have HBa:=hid (qgu Hfit.out hkl)
       have HBl:=hid (qaz Hfit.out)
       obtain⟨fk,hfk⟩:∃fk,fld ((nms xs).take k) xs[k].name=fk:=⟨_,rfl⟩
       have HFk:Hid ((fo (nms xs))[k]?=some fk):=hid (by rw[←hfk];exact fo_at Hfit.out hkl)
       have hxk:=hok xs[k] (List.getElem_mem hkl)
       have hnf:fk.size≤16:=by
        obtain⟨k',hk',e,_,hs⟩:=qs6 Hfit.out (by have:=Hl.out;omega) (List.getElem_mem (h:=show k<(qb4 xs).length by rw[HBl.out];exact hkl))
        rw[HBa.out,hfk] at hs
        exact hs
       have HT:Hid (qcx ((List.range (k+1)).map (qaa pre.length xs))=qcx ((List.range k).map (qaa pre.length xs))++[.int .i64 (qaa pre.length xs k:Int)]):=hid (by rw[List.range_succ];simp[qcx])
       have HS:Hid (pre++qbt ((qb4 xs).take (k+1))=(pre++qbt ((qb4 xs).take k))++mkp fk (num xs[k].time xs[k].uid xs[k].gid xs[k].mode (xs[k].len:Int)) xs[k].data):=hid (by
        rw[qp2 (by rw[HBl.out];exact hkl),HBa.out,hfk,←List.append_assoc]
        rfl)
       have HN:Hid (qaa pre.length xs (k+1)=qaa pre.length xs k+(mkp fk (num xs[k].time xs[k].uid xs[k].gid xs[k].mode (xs[k].len:Int)) xs[k].data).length):=hid (by
        have q:=(qf9 (qjp Hfit.out (by have:=Hl.out;omega) hkl) (by exact Hxl.out xs[k] (List.getElem_mem hkl))).2
        rw[hfk] at q
        rw[qcn hkl]
        exact congrArg _ q.symm)
       have hof:=HOf.out k hk
       have hml:=hid (HOf.out (k+1) (by omega))
       clear hfk HBa HBl
       generalize xs[k]=x at *
       obtain⟨x0,x1,x2,x3,x4,x5,x6,x7,x8⟩:=x
       obtain⟨p0,p1,p2,p3,p4,p5⟩:=hcell
       obtain⟨_,q2,q3,q4,q5,q6⟩:=hxk
       simp only at *
       generalize hL:mkp fk (num x1 x2 x3 x4 (x6:Int)) x8=L at *
       have HL:=hid hL
       rw[HN.out] at hml
       clear hL
       obtain⟨ok,hok2⟩:∃ok,qaa pre.length xs k=ok:=⟨_,rfl⟩
       obtain⟨on,hon⟩:∃on,qaa pre.length xs (k+1)=on:=⟨_,rfl⟩
       have HON:=hid hon
       rw[hok2] at hB hof hml HN HT ⊢
       rw[hon] at HN
       clear hok2 hon
       go_upto_region 20 with (at_builtin;go_must (refine JC.qa3 kI wr w.heap.size (.slice A1 k c1) k _ hO hb.size 1 1 #[.int .i64 (ok:Int)] (0,0) rfl (by simp[Value.oneCell']) (by omega) (by omega) rfl (.tmp 68) (.tmp 71) rfl rfl rfl ?_);intro v3 w3' hO3 hb3 hot3 _;obtain⟨A3,c3,rfl,_⟩:=hO3.reads)
       rw[show qcx ((List.range k).map (qaa pre.length xs))++#[Value.int .i64 (ok:Int)].toList=qcx ((List.range (k+1)).map (qaa pre.length xs)) by rw[HT.out]] at hO3
       have hF3:=qb0 hF hot3 (by decide)
       have hB3:=qan hB hot3 (by decide)
       have hb03:=hb.trans hb3
       have hbK3:b<w.heap.size:=by omega
       have r0:=(qbb (o:=o+k * 6) (hb3.block b hbK3)).trans p0
       have r1:=(qbb (o:=o+k * 6+1) (hb3.block b hbK3)).trans p1
       have r2:=(qbb (o:=o+k * 6+2) (hb3.block b hbK3)).trans p2
       have r3:=(qbb (o:=o+k * 6+3) (hb3.block b hbK3)).trans p3
       have r4:=(qbb (o:=o+k * 6+4) (hb3.block b hbK3)).trans p4
       have r5:=(qbb (o:=o+k * 6+5) (hb3.block b hbK3)).trans p5
       have hxd3:=hxd.below (hb3.mono hK)
       obtain⟨b',o',ef,hb',hfc,hcf⟩:=fo_get hF3 hlt HFk.out
       subst ef
       have hs3:=hb03.size
       clear hO hB hF hot3 hb3 p0 p1 p2 p3 p4 p5 hb hxd
       refine Ord.qap.begin (fun W'=>W'.cell? ⟨b,o+k * 6,none⟩=some (.string x0)∧W'.cell? ⟨b,o+k * 6+1,none⟩=some (.int .i64 x1)∧W'.cell? ⟨b,o+k * 6+2,none⟩=some (.int .i64 x2)∧W'.cell? ⟨b,o+k * 6+3,none⟩=some (.int .i64 x3)∧W'.cell? ⟨b,o+k * 6+4,none⟩=some (.int .i64 x4)∧W'.cell? ⟨b,o+k * 6+5,none⟩=some (.slice x5 x6 x7)∧W'.cell? ⟨b',o'+k,none⟩=some (.string fk)) 60 (by kernel_rfl) ?_
       have hS0:(fun W'=>W'.cell? ⟨b,o+k * 6,none⟩=some (.string x0)∧W'.cell? ⟨b,o+k * 6+1,none⟩=some (.int .i64 x1)∧W'.cell? ⟨b,o+k * 6+2,none⟩=some (.int .i64 x2)∧W'.cell? ⟨b,o+k * 6+3,none⟩=some (.int .i64 x3)∧W'.cell? ⟨b,o+k * 6+4,none⟩=some (.int .i64 x4)∧W'.cell? ⟨b,o+k * 6+5,none⟩=some (.slice x5 x6 x7)∧W'.cell? ⟨b',o'+k,none⟩=some (.string fk)) w3'.drew:=⟨r0,r1,r2,r3,r4,r5,hfc⟩
       refine zjT 0 73 rfl rfl (by kernel_rfl) (x:=?_) (fun _ _ _ h=>h) ?_ hS0 ?_
       rotate_left 1
       ·rintro v ⟨z0,z1,z2,z3,z4,z5,z6⟩;go_simp;first|done|rfl
       try simp only[zjA]
       refine zjT 1 74 rfl rfl (by kernel_rfl) (x:=?_) (fun _ _ _ h=>h) ?_ hS0 ?_
       rotate_left 1
       ·rintro v ⟨z0,z1,z2,z3,z4,z5,z6⟩;go_simp;first|done|rfl
       try simp only[zjA]
       refine zjT 2 75 rfl rfl (by kernel_rfl) (x:=?_) (fun _ _ _ h=>h) ?_ hS0 ?_
       rotate_left 1
       ·rintro v ⟨z0,z1,z2,z3,z4,z5,z6⟩;go_simp;first|done|rfl
       try simp only[zjA]
       refine zjT 3 76 rfl rfl (by kernel_rfl) (x:=?_) (fun _ _ _ h=>h) ?_ hS0 ?_
       rotate_left 1
       ·rintro v ⟨z0,z1,z2,z3,z4,z5,z6⟩;go_simp;first|done|rfl
       try simp only[zjA]
       refine zjT 4 77 rfl rfl (by kernel_rfl) (x:=?_) (fun _ _ _ h=>h) ?_ hS0 ?_
       rotate_left 1
       ·rintro v ⟨z0,z1,z2,z3,z4,z5,z6⟩;go_simp;first|done|rfl
       try simp only[zjA]
       refine zjT 5 78 rfl rfl (by kernel_rfl) (x:=?_) (fun _ _ _ h=>h) ?_ hS0 ?_
       rotate_left 1
       ·rintro v ⟨z0,z1,z2,z3,z4,z5,z6⟩;go_simp;first|done|rfl
       try simp only[zjA]
       refine zjT 6 79 rfl rfl (by kernel_rfl) (x:=?_) (fun _ _ _ h=>h) ?_ hS0 ?_
       rotate_left 1
       ·rintro v ⟨z0,z1,z2,z3,z4,z5,z6⟩;go_simp;first|done|rfl
       try simp only[zjA]
       refine zjT 7 80 rfl rfl (by kernel_rfl) (x:=?_) (fun _ _ _ h=>h) ?_ hS0 ?_
       rotate_left 1
       ·rintro v ⟨z0,z1,z2,z3,z4,z5,z6⟩;go_simp;first|done|rfl
       try simp only[zjA]
       refine zjT 8 81 rfl rfl (by kernel_rfl) (x:=?_) (fun _ _ _ h=>h) ?_ hS0 ?_
       rotate_left 1
       ·rintro v ⟨z0,z1,z2,z3,z4,z5,z6⟩;go_simp;first|done|rfl
       try simp only[zjA]
       refine zjT 9 82 rfl rfl (by kernel_rfl) (x:=?_) (fun _ _ _ h=>h) ?_ hS0 ?_
       rotate_left 1
       ·rintro v ⟨z0,z1,z2,z3,z4,z5,z6⟩;go_simp;first|done|rfl
       try simp only[zjA]
       refine zjT 10 83 rfl rfl (by kernel_rfl) (x:=?_) (fun _ _ _ h=>h) ?_ hS0 ?_
       rotate_left 1
       ·rintro v ⟨z0,z1,z2,z3,z4,z5,z6⟩;go_simp;first|done|rfl
       try simp only[zjA]
       refine zjT 11 84 rfl rfl (by kernel_rfl) (x:=?_) (fun _ _ _ h=>h) ?_ hS0 ?_
       rotate_left 1
       ·rintro v ⟨z0,z1,z2,z3,z4,z5,z6⟩;go_simp;first|done|rfl
       try simp only[zjA]
       refine zjT 12 85 rfl rfl (by kernel_rfl) (x:=?_) (fun _ _ _ h=>h) ?_ hS0 ?_
       rotate_left 1
       ·rintro v ⟨z0,z1,z2,z3,z4,z5,z6⟩;go_simp;first|done|rfl
       try simp only[zjA]
       refine zjT 13 86 rfl rfl (by kernel_rfl) (x:=?_) (fun _ _ _ h=>h) ?_ hS0 ?_
       rotate_left 1
       ·rintro v ⟨z0,z1,z2,z3,z4,z5,z6⟩;go_simp;first|done|rfl
       try simp only[zjA]
       refine zjT 14 87 rfl rfl (by kernel_rfl) (x:=?_) (fun _ _ _ h=>h) ?_ hS0 ?_
       rotate_left 1
       ·rintro v ⟨z0,z1,z2,z3,z4,z5,z6⟩;go_simp;first|done|rfl
       try simp only[zjA]
       refine zjT 15 88 rfl rfl (by kernel_rfl) (x:=?_) (fun _ _ _ h=>h) ?_ hS0 ?_
       rotate_left 1
       ·rintro v ⟨z0,z1,z2,z3,z4,z5,z6⟩;go_simp;first|done|rfl
       try simp only[zjA]
       refine zjT 16 89 rfl rfl (by kernel_rfl) (x:=?_) (fun _ _ _ h=>h) ?_ hS0 ?_
       rotate_left 1
       ·rintro v ⟨z0,z1,z2,z3,z4,z5,z6⟩;go_simp;first|done|rfl
       try simp only[zjA]
       refine zjT 17 90 rfl rfl (by kernel_rfl) (x:=?_) (fun _ _ _ h=>h) ?_ hS0 ?_
       rotate_left 1
       ·rintro v ⟨z0,z1,z2,z3,z4,z5,z6⟩;go_simp;first|done|rfl
       try simp only[zjA]
       refine zjT 18 91 rfl rfl (by kernel_rfl) (x:=?_) (fun _ _ _ h=>h) ?_ hS0 ?_
       rotate_left 1
       ·rintro v ⟨z0,z1,z2,z3,z4,z5,z6⟩;go_simp;first|done|rfl
       try simp only[zjA]
       refine zjT 19 92 rfl rfl (by kernel_rfl) (x:=?_) (fun _ _ _ h=>h) ?_ hS0 ?_
       rotate_left 1
       ·rintro v ⟨z0,z1,z2,z3,z4,z5,z6⟩;go_simp;first|done|rfl
       try simp only[zjA]
       refine zjT 20 93 rfl rfl (by kernel_rfl) (x:=?_) (fun _ _ _ h=>h) ?_ hS0 ?_
       rotate_left 1
       ·rintro v ⟨z0,z1,z2,z3,z4,z5,z6⟩;go_simp;first|done|rfl
       try simp only[zjA]
       refine zjT 21 94 rfl rfl (by kernel_rfl) (x:=?_) (fun _ _ _ h=>h) ?_ hS0 ?_
       rotate_left 1
       ·rintro v ⟨z0,z1,z2,z3,z4,z5,z6⟩;go_simp;first|done|rfl
       try simp only[zjA]
       refine zjT 22 95 rfl rfl (by kernel_rfl) (x:=?_) (fun _ _ _ h=>h) ?_ hS0 ?_
       rotate_left 1
       ·rintro v ⟨z0,z1,z2,z3,z4,z5,z6⟩;go_simp;first|done|rfl
       try simp only[zjA]
       refine zjT 23 96 rfl rfl (by kernel_rfl) (x:=?_) (fun _ _ _ h=>h) ?_ hS0 ?_
       rotate_left 1
       ·rintro v ⟨z0,z1,z2,z3,z4,z5,z6⟩;go_simp;first|done|rfl
       try simp only[zjA]
       refine zjT 24 97 rfl rfl (by kernel_rfl) (x:=?_) (fun _ _ _ h=>h) ?_ hS0 ?_
       rotate_left 1
       ·rintro v ⟨z0,z1,z2,z3,z4,z5,z6⟩;go_simp;first|done|rfl
       try simp only[zjA]
       refine zjT 25 98 rfl rfl (by kernel_rfl) (x:=?_) (fun _ _ _ h=>h) ?_ hS0 ?_
       rotate_left 1
       ·rintro v ⟨z0,z1,z2,z3,z4,z5,z6⟩;go_simp;first|done|rfl
       try simp only[zjA]
       refine zjT 26 99 rfl rfl (by kernel_rfl) (x:=?_) (fun _ _ _ h=>h) ?_ hS0 ?_
       rotate_left 1
       ·rintro v ⟨z0,z1,z2,z3,z4,z5,z6⟩;go_simp;first|done|rfl
       try simp only[zjA]
       refine zjT 27 100 rfl rfl (by kernel_rfl) (x:=?_) (fun _ _ _ h=>h) ?_ hS0 ?_
       rotate_left 1
       ·rintro v ⟨z0,z1,z2,z3,z4,z5,z6⟩;go_simp;first|done|rfl
       try simp only[zjA]
       refine zjT 28 101 rfl rfl (by kernel_rfl) (x:=?_) (fun _ _ _ h=>h) ?_ hS0 ?_
       rotate_left 1
       ·rintro v ⟨z0,z1,z2,z3,z4,z5,z6⟩;go_simp;first|done|rfl
       try simp only[zjA]
       refine zjT 29 102 rfl rfl (by kernel_rfl) (x:=?_) (fun _ _ _ h=>h) ?_ hS0 ?_
       rotate_left 1
       ·rintro v ⟨z0,z1,z2,z3,z4,z5,z6⟩;go_simp;first|done|rfl
       try simp only[zjA]
       refine zjT 30 103 rfl rfl (by kernel_rfl) (x:=?_) (fun _ _ _ h=>h) ?_ hS0 ?_
       rotate_left 1
       ·rintro v ⟨z0,z1,z2,z3,z4,z5,z6⟩;go_simp;first|done|rfl
       try simp only[zjA]
       refine Ord.qap.step 31 (by kernel_rfl) rfl (fun C hC=>?_)
       go_simp
       go_at_call 59
       refine (qjq fk x1 x2 x3 x4 0 K x5 x6 x7 x8 w3'.drew (hxd3.drewN 1) (show K≤w3'.heap.size by omega) (by omega) (by omega) q3 q4 q5 q6).mono ?_
       rw[HL.out]
       rintro e w4' ⟨v4,rfl,o4,hb4⟩
       have hb4':Below w3'.heap.size w3' w4':=(Below.refl _ _).drew.trans hb4
       obtain⟨A4,c4,rfl,r4',_⟩:=o4.reads
       have hO4:=hO3.below hb4'
       have hB4:=hB3.below hb4'
       have hF4:=hF3.below hb4'
       have hb04:=hb03.trans (hb4'.mono hs3)
       have hs4:=hb4'.size
       have hS4:(fun W'=>W'.cell? ⟨b,o+k * 6,none⟩=some (.string x0)∧W'.cell? ⟨b,o+k * 6+1,none⟩=some (.int .i64 x1)∧W'.cell? ⟨b,o+k * 6+2,none⟩=some (.int .i64 x2)∧W'.cell? ⟨b,o+k * 6+3,none⟩=some (.int .i64 x3)∧W'.cell? ⟨b,o+k * 6+4,none⟩=some (.int .i64 x4)∧W'.cell? ⟨b,o+k * 6+5,none⟩=some (.slice x5 x6 x7)∧W'.cell? ⟨b',o'+k,none⟩=some (.string fk)) w4':=⟨(qbb (hb4'.block b (by omega))).trans r0,(qbb (hb4'.block b (by omega))).trans r1,(qbb (hb4'.block b (by omega))).trans r2,(qbb (hb4'.block b (by omega))).trans r3,(qbb (hb4'.block b (by omega))).trans r4,(qbb (hb4'.block b (by omega))).trans r5,(qbb (hb4'.block b' hb')).trans hfc⟩
       go_wp2_with fail
       refine hC.out _ _ (fun _=>hS4) ?_
       clear hC C hS0 hO3 hB3 hF3 hb03 hb4 o4
       try simp only[zjA]
       obtain⟨_,_,eB,rB4,_⟩:=hB4.reads
       injection eB with eB1 _ eB3
       subst eB1 eB3
       refine Ord.qap.step 32 (by kernel_rfl) rfl (fun C hC=>?_)
       go_simp
       go_at_call 58
       refine (JB.qfw w4'.heap.size w4'.heap.size A2 A4 ok c2 L.length c4 _ L w4' rB4 r4' zjn zjn (by omega) (by have:=hml.out;omega)).mono ?_
       rintro e w5' ⟨v5,rfl,o5,hb5⟩
       obtain⟨A5,c5,rfl,_⟩:=o5.reads
       replace o5:=o5.more hb04.size
       have hO5:=hO4.below hb5
       have hF5:=hF4.below hb5
       have hb05:=hb04.trans (hb5.mono hb04.size)
       have hS5:(fun W'=>W'.cell? ⟨b,o+k * 6,none⟩=some (.string x0)∧W'.cell? ⟨b,o+k * 6+1,none⟩=some (.int .i64 x1)∧W'.cell? ⟨b,o+k * 6+2,none⟩=some (.int .i64 x2)∧W'.cell? ⟨b,o+k * 6+3,none⟩=some (.int .i64 x3)∧W'.cell? ⟨b,o+k * 6+4,none⟩=some (.int .i64 x4)∧W'.cell? ⟨b,o+k * 6+5,none⟩=some (.slice x5 x6 x7)∧W'.cell? ⟨b',o'+k,none⟩=some (.string fk)) w5':=by
        obtain⟨s0,s1,s2,s3,s4,s5,s6⟩:=hS4
        exact⟨(qbb (hb5.block b (by omega))).trans s0,(qbb (hb5.block b (by omega))).trans s1,(qbb (hb5.block b (by omega))).trans s2,(qbb (hb5.block b (by omega))).trans s3,(qbb (hb5.block b (by omega))).trans s4,(qbb (hb5.block b (by omega))).trans s5,(qbb (hb5.block b' (by omega))).trans s6⟩
       go_wp2_with fail
       refine hC.out _ _ (fun _=>hS5) ?_
       clear hC C hS4 hO4 hB4 hF4 hb04 hb5 rB4 r4'
       try simp only[zjA]
       refine Ord.qap.step 33 (by kernel_rfl) rfl (fun C hC=>?_)
       go_simp
       refine hC.out _ _ (fun _=>hS5) ?_
       clear hC C
       try simp only[zjA]
       refine Ord.qap.done (by kernel_rfl) ?_ _
       clear hS5 r0 r1 r2 r3 r4 r5 hfc hb'
       rw[←HN.out,←HS.out] at o5
       rw[←HN.out]
       go_wp2_with fail
       go_roundw
       all_goals first
        |exact⟨k+1,A3,c3,A5,c5,by go_num,rfl,by rw[HON.out],by omega,hO5,by rw[HON.out];exact o5,hF5,hb05⟩
        |(simp[intOf];omega)
      ·obtain rfl:k=n:=by omega
       have hTk:(qb4 xs).take k=qb4 xs:=List.take_of_length_le (by rw[qaz Hfit.out];have:=Hl.out;omega)
       have hfo:=HFl.out k (by have:=Hl.out;omega)
       rw[hTk] at hB hfo
       have HR:=hid (qp4.fin (hm:=_) HF0.out HPre.out HBase.out Hl.out hfo hO hB hb)
       clear hfo hO hB hb hTk
       generalize qaa pre.length xs k=ok at *
       go_wp2_with fail
       go_ret3
       exact HR.out
 ·have HR:Hid (∀W,Below w.heap.size w W→qp4 hm md xs w (.returned (.tuple #[.slice none 0 0,.slice none 0 0,.int .i64 f2])) W):=hid (fun W hb=>by
   have h2:¬(qaw 0 xs).2=0:=by rw[hf];exact hz
   have e1:qzt hm md xs=[]:=if_neg h2
   refine⟨.slice none 0 0,none,0,0,by rw[hf],?_,?_,hb⟩
   ·rw[e1];exact JB.Own.nil _ _
   ·rw[if_neg h2];exact JC.Own.nil _ _ _ _)
  clear hf
  go_wp2_with fail
  go_ret3
  exact HR.out _ hb1
end JW
namespace JW
open JB JD JN JH JR
open JS (Fr blk Oth)
def nA:ByteArray:=⟨#[97,46,111]⟩
def nL:ByteArray:=⟨#[97,45,118,101,114,121,45,108,111,110,103,45,110,97,109,101,46,111]⟩
def m1 (g:Nat):Mem:=⟨nA,0,0,0,0,some ⟨g,0,none⟩,1,1,[120]⟩
def m2:Mem:=⟨nL,0,0,0,0,none,0,0,[]⟩
theorem rdM_row {w:World}{b K:Nat}{xs:List Mem}{cs:Array Value}{m:Nat×Nat}(h:w.heap[b]?=some (.cells cs 24 m))(hc:cs.toList=qa5 xs)(hb:b<K)(hd:∀x∈xs,JB.Rd w K x.ptr x.len x.data∧x.len≤140737488355328):RdM w K (some ⟨b,0,none⟩) xs.length xs:=by
 refine⟨rfl,fun k hk=>⟨⟨b,0,rfl,hb,?_⟩,hd _ (List.getElem_mem hk)⟩⟩
 obtain⟨q0,q1,q2,q3,q4,q5⟩:=qg6 xs k hk
 rw[←hc] at q0 q1 q2 q3 q4 q5
 have e:∀j v,cs.toList[j]?=some v→w.cell? ⟨b,j,none⟩=some v:=fun j v hv=>by
  rw[cell_of_row w b j cs _ m h,←Array.getElem?_toList]
  exact hv
 unfold qk2
 rw[Nat.zero_add]
 exact⟨e _ _ q0,e _ _ q1,e _ _ q2,e _ _ q3,e _ _ q4,e _ _ q5⟩
end JW
end Go.Proofs.YtkegpjjehejaoaaGreatDoor
