/-
  arwrite:
-/
import Derived.Test.YtlmolmohhpdhdaaGreatDoorZWf
import Derived.Test.YtlmolmohhpdhdaaGreatDoorZWa
set_option maxRecDepth 100000
set_option maxHeartbeats 16000000
set_option linter.unusedSimpArgs false
set_option linter.unusedVariables false
namespace Go.Proofs.YtlmolmohhpdhdaaGreatDoor
open Go.RowKit Go.Proofs
namespace JW
open JB JD JN JH JR
open JS (Fr blk)
theorem qvd:∀{ps:List Mem},(∀y∈ps,(ptl y).length≤61+y.len)→(qcm ps).length≤ps.length * 61+lens ps
 |[],_=>by simp[qcm]
 |x::r,h=>by
  have h1:=qvd (ps:=r) fun y hy=>h y (List.mem_cons_of_mem _ hy)
  have h2:=h x List.mem_cons_self
  have e:qcm (x::r)=ptl x++qcm r:=by simp[qcm]
  have e2:lens (x::r)=x.len+lens r:=by simp[lens]
  rw[e,e2,List.length_append,List.length_cons,Nat.succ_mul]
  omega
theorem qx7 {xs:List Mem}(hfit:∀x∈xs,qc8 x=0):lens (qbh xs)=lens xs:=by
 unfold lens
 congr 1
 apply List.ext_getElem
 ·rw[List.length_map,List.length_map,qba hfit]
 ·intro i h1 h2
  rw[List.length_map] at h2
  rw[List.getElem_map,List.getElem_map,qim hfit h2]
  rfl
theorem qve {xs:List Mem}(hfit:∀x∈xs,qc8 x=0)(hn:xs.length≤200){y:Mem}(hy:y∈qbh xs):∃(k:Nat)(hk:k<xs.length),y=setN (fld ((nms xs).take k) xs[k].name) xs[k]∧qu1 y=0∧y.name.size≤16:=by
 obtain⟨k,hk,rfl⟩:=List.mem_iff_getElem.1 hy
 have hk':k<xs.length:=by rw[qba hfit] at hk;exact hk
 refine⟨k,hk',qim hfit hk',?_⟩
 rw[qim hfit hk']
 refine⟨qrr hfit (by omega) hk',?_⟩
 have hv:=(qhh (hfit xs[k] (List.getElem_mem hk'))).1
 have hal:qhw ((nms xs).take k)=true:=qbc.2 fun n hm=>qbc.1 (qfn hfit) n (List.mem_of_mem_take hm)
 have hl:=qhq hal (k:=202) (by rw[List.length_take];simp[nms];omega)
 have:=(qcf.1 (qzt (pre:=(nms xs).take k) hv (by omega)).1).2.1
 exact this
theorem qrv {hm:Bool}{md:List UInt8}{xs:List Mem}(hfit:∀x∈xs,qc8 x=0)(hn:xs.length≤200)(_hok:∀x∈xs,MOk x)(hl:∀x∈xs,x.data.length=x.len)(hmd:md.length≤20000)(hs:lens xs≤15000):
 (qcm (qhf hm none md.length 0 md)).length≤20061∧(qcm (qhg none (bo (nms xs)).length 0 (bo (nms xs)))).length≤51461∧(qcm (qbh xs)).length≤27200:=by
 refine⟨?_,?_,?_⟩
 ·cases hm
  ·simp[qhf,qcm]
  ·show (qcm [_]).length≤20061
   rw[qen,(qq7 (x:=mpt none md.length 0 md) (qkf (by omega)) rfl).2]
   show 60+md.length+md.length%2≤20061
   omega
 ·have hb:=qnx (nms xs)
  have hnl:(nms xs).length=xs.length:=by simp[nms]
  unfold qhg
  split
  ·simp[qcm]
  ·rw[qen,(qq7 (x:=tpt none (bo (nms xs)).length 0 (bo (nms xs))) (qkg (by omega)) rfl).2]
   show 60+(bo (nms xs)).length+(bo (nms xs)).length%2≤51461
   omega
 ·have:=qvd (ps:=qbh xs) fun y hy=>by
   obtain⟨k,hk,e,he,_⟩:=qve hfit hn hy
   have h1:y.len=xs[k].len:=by rw[e];rfl
   have h2:y.data=xs[k].data:=by rw[e];rfl
   rw[(qq7 he (by rw[h1,h2];exact hl _ (List.getElem_mem hk))).2]
   omega
  rw[qba hfit,qx7 hfit] at this
  omega
theorem arch_len {hm:Bool}{md:List UInt8}{xs:List Mem}(hfit:∀x∈xs,qc8 x=0)(hn:xs.length≤200)(hok:∀x∈xs,MOk x)(hl:∀x∈xs,x.data.length=x.len)(hmd:md.length≤20000)(hs:lens xs≤15000):(qny hm md xs).length≤99000:=by
 obtain⟨h1,h2,h3⟩:=qrv (hm:=hm) hfit hn hok hl hmd hs
 unfold qny
 rw[List.length_append,List.length_append,List.length_append]
 have:JR.qcx.length=8:=rfl
 omega
def wout (hm:Bool)(md:List UInt8)(xs:List Mem):List UInt8:=if (qbq 0 xs).2=0 then qny hm md xs else []
def Writes (hm:Bool)(md:List UInt8)(xs:List Mem)(w:World)(e:Ending)(w':World):Prop:=
 ∃v,e=.returned (.tuple #[v,.int .i64 (qbq 0 xs).2])∧JB.Own w' w.heap.size v (wout hm md xs).length (wout hm md xs)∧Below w.heap.size w w'
theorem qrw {w:World}{v:Value}{B K:Nat}{x:Mem}(hr:JB.Rd w K x.ptr x.len x.data)(hK:K≤B)(hB:B<w.heap.size)(hv:∀k,blk v=some k→K≤k)(ho:POk x):PRd w v B x:=by
 refine⟨hr.more (by omega),fun a hn e=>?_,ho⟩
 obtain⟨b,o,e2,hl,_⟩:=hr.2 0 (by rw[hr.1];exact hn)
 rw[e] at e2
 injection e2 with e2
 subst e2
 exact⟨by show b≠B;omega,fun q=>by have:=hv _ q;simp only at this;omega⟩
theorem qzw {w:World}{v:Value}{B K:Nat}{x:Mem}(hr:JB.Own w K (.slice x.ptr x.len x.cap) x.len x.data)(hK:B<K)(hv:∀k,blk v=some k→k<K)(ho:POk x):PRd w v B x:=by
 obtain⟨A,c,e,hrd,_⟩:=hr.reads
 injection e with e1 _ e3
 rw[←e1] at hrd
 refine⟨hrd,fun a _ e=>?_,ho⟩
 have h1:K≤a.block:=hr.blk_ge (k:=a.block) (by rw[e];rfl)
 exact⟨by omega,fun q=>by have:=hv _ q;omega⟩
theorem qzx (hm:Bool)(mA:Option Addr)(mn mc:Nat)(md:List UInt8)(Km K:Nat)(A:Option Addr)(n c:Nat)(xs:List Mem)(w:World)(hg:qcj w)(hmd:JB.Rd w Km mA mn md)(hKm:Km≤w.heap.size)(hmn:mn≤20000)(h:RdM w K A n xs)(hK:K≤w.heap.size)(hok:∀x∈xs,MOk x)(hn:n≤200)(hsum:lens xs≤15000):
 Calls Tryz.prog 84 #[.bool hm,.slice mA mn mc,.slice A n c] w (Writes hm md xs w):=by
 have Hsum:=hid hsum
 clear hsum
 have Hl:=hid h.1
 have Hg:=hid hg
 have Hmd:=hid hmd
 clear hg hmd
 go_enter Tryz.func84,Tryz.ntmps84
 go_wp2_with fail
 refine (qmm K A n c xs w h hK hok (by omega)).mono ?_
 rintro e w1 ⟨rfl,hb1⟩
 obtain⟨f1,f2,hf⟩:∃f1 f2,qbq 0 xs=(f1,f2):=⟨_,_,rfl⟩
 have HF:=hid hf
 rw[hf]
 by_cases hz:f2=0
 ·subst hz
  have hfit:=(qgr 0 xs).1 (by rw[hf])
  have Hfit:=hid hfit
  clear hf hfit
  have hs1:=hb1.size
  have kc:=Lib.run_convert_bytes_const (P:=Tryz.prog) w1 22 5 #[.int .u8 33,.int .u8 60,.int .u8 97,.int .u8 114,.int .u8 99,.int .u8 104,.int .u8 62,.int .u8 10] 8 8 Tryz.underlying22 Tryz.underlying5
  have hr1:=heap_alloc_new w1 (.cells #[.int .u8 33,.int .u8 60,.int .u8 97,.int .u8 114,.int .u8 99,.int .u8 104,.int .u8 62,.int .u8 10] 5 (8,9))
  have ho2:JB.Own (w1.alloc (.cells #[.int .u8 33,.int .u8 60,.int .u8 97,.int .u8 114,.int .u8 99,.int .u8 104,.int .u8 62,.int .u8 10] 5 (8,9))) w.heap.size (.slice (some ⟨w1.heap.size,0,none⟩) 8 8) 8 JR.qcx:=
   ⟨rfl,.inr ⟨w1.heap.size,8,_,(8,9),rfl,hs1,hr1,Nat.le_refl _,by unfold maxLen;omega,rfl,rfl,fun j hj=>by simp only;omega⟩⟩
  have hb2:Below w.heap.size w (w1.alloc (.cells #[.int .u8 33,.int .u8 60,.int .u8 97,.int .u8 114,.int .u8 99,.int .u8 104,.int .u8 62,.int .u8 10] 5 (8,9))):=hb1.alloc hs1 _
  have hs2:(w1.alloc (.cells #[.int .u8 33,.int .u8 60,.int .u8 97,.int .u8 114,.int .u8 99,.int .u8 104,.int .u8 62,.int .u8 10] 5 (8,9))).heap.size=w1.heap.size+1:=World.size_alloc _ _
  have hrow3:=heap_alloc_new (w1.alloc (.cells #[.int .u8 33,.int .u8 60,.int .u8 97,.int .u8 114,.int .u8 99,.int .u8 104,.int .u8 62,.int .u8 10] 5 (8,9))) (.cells #[.slice (some ⟨w1.heap.size,0,none⟩) 8 8] 208)
  have ho3:=ho2.alloc (.cells #[.slice (some ⟨w1.heap.size,0,none⟩) 8 8] 208)
  have hb3:=hb2.alloc hb2.size (.cells #[.slice (some ⟨w1.heap.size,0,none⟩) 8 8] 208)
  have hs3:((w1.alloc (.cells #[.int .u8 33,.int .u8 60,.int .u8 97,.int .u8 114,.int .u8 99,.int .u8 104,.int .u8 62,.int .u8 10] 5 (8,9))).alloc (.cells #[.slice (some ⟨w1.heap.size,0,none⟩) 8 8] 208)).heap.size=w1.heap.size+2:=by rw[World.size_alloc,hs2]
  rw[hs2] at hrow3
  clear hr1 ho2 hb2 hs2
  go_upto_region 5 with fail
  generalize (w1.alloc (.cells #[.int .u8 33,.int .u8 60,.int .u8 97,.int .u8 114,.int .u8 99,.int .u8 104,.int .u8 62,.int .u8 10] 5 (8,9))).alloc (.cells #[.slice (some ⟨w1.heap.size,0,none⟩) 8 8] 208)=w3 at *
  generalize w1.heap.size=g at *
  clear kc hb1
  go_wp2_with fail
  refine (qzv hm mA mn mc md K A n c xs w3 (Hg.out.on hb3) (h.below (hb3.mono hK)) (by omega) hok hn Hfit.out).mono ?_
  rintro e w4 ⟨AP,cP,At,ct,rfl,oP,oT,hb4⟩
  have hrow4:=(hb4.block (g+1) (by omega)).trans hrow3
  have ho4:=ho3.below hb4
  have hb04:=hb3.trans (hb4.mono (by omega))
  have hsz4:=hb4.size
  have h4:=h.below (hb04.mono hK)
  have hl4:∀x∈xs,x.data.length=x.len:=fun x hx=>by
   obtain⟨k,hk,rfl⟩:=List.mem_iff_getElem.1 hx
   exact (h4.2 k hk).2.1.1
  have hn':xs.length≤200:=by have:=Hl.out;omega
  have hmdl:md.length=mn:=Hmd.out.1
  have hPL:=qrv (hm:=hm) Hfit.out hn' hok hl4 (by omega:md.length≤20000) Hsum.out
  have hx4:∀x∈qhf hm mA mn mc md++(qhg At (bo (nms xs)).length ct (bo (nms xs))++qbh xs),PRd w4 (.slice (some ⟨g,0,none⟩) 8 8) (g+1) x:=fun x hx=>by
   rw[List.mem_append,List.mem_append] at hx
   rcases hx with hx|hx|hx
   ·have hh:hm=true:=by cases hm;(· simp[qhf] at hx);rfl
    subst hh
    obtain rfl:x=mpt mA mn mc md:=by simpa [qhf] using hx
    exact qrw (K:=w.heap.size) ((Hmd.out.below (hb04.mono hKm)).more hKm) (by omega) (by omega) (fun k e=>by injection e with e;simp only at e;omega) ⟨qkf (by omega),by show (1:Nat)≤1000;decide,by show mn≤100000;omega,by show (0:Int)<_;decide,by show (0:Int)<_;decide,by show (0:Int)<_;decide,by show (0:Int)<_;decide⟩
   ·have hb:=qnx (nms xs)
    have hnl:(nms xs).length=xs.length:=by simp[nms]
    have hx':x=tpt At (bo (nms xs)).length ct (bo (nms xs)):=by
     unfold qhg at hx
     split at hx
     ·simp at hx
     ·simpa using hx
    subst hx'
    exact qzw (K:=w3.heap.size) oT (by omega) (fun k e=>by injection e with e;simp only at e;omega) ⟨qkg (by omega),by show (2:Nat)≤1000;decide,by show (bo (nms xs)).length≤100000;omega,by show (0:Int)<_;decide,by show (0:Int)<_;decide,by show (0:Int)<_;decide,by show (0:Int)<_;decide⟩
   ·obtain⟨k,hk,e,he,hnm⟩:=qve Hfit.out hn' hx
    have hmk:=hok xs[k] (List.getElem_mem hk)
    have hrd:=(h4.2 k hk).2.1
    have e1:x.ptr=xs[k].ptr:=by rw[e];rfl
    have e2:x.len=xs[k].len:=by rw[e];rfl
    have e3:x.data=xs[k].data:=by rw[e];rfl
    have e4:x.time=xs[k].time:=by rw[e];rfl
    have e5:x.uid=xs[k].uid:=by rw[e];rfl
    have e6:x.gid=xs[k].gid:=by rw[e];rfl
    have e7:x.mode=xs[k].mode:=by rw[e];rfl
    refine qrw (K:=w.heap.size) (by rw[e1,e2,e3];exact hrd.more hK) (by omega) (by omega) (fun k e=>by injection e with e;simp only at e;omega) ⟨he,by omega,by have:=hmk.len;omega,by rw[e4];exact hmk.t,by rw[e5];exact hmk.u,by rw[e6];exact hmk.g,by rw[e7];exact hmk.m⟩
  have hflat:qcm (qhf hm mA mn mc md++(qhg At (bo (nms xs)).length ct (bo (nms xs))++qbh xs))=qcm (qhf hm none mn 0 md)++(qcm (qhg none (bo (nms xs)).length 0 (bo (nms xs)))++qcm (qbh xs)):=by
   rw[qcd,qcd,qzr,qzs]
  have hA4:Apt (qhf hm mA mn mc md++(qhg At (bo (nms xs)).length ct (bo (nms xs))++qbh xs)).length AP (.slice (some ⟨g,0,none⟩) 8 8) (g+1):=fun a _ e=>by
   have h1:w3.heap.size≤a.block:=by
    rcases oP.2 with ⟨q,_⟩|⟨g',_,_,_,q,hg',_⟩
    ·injection q with q;rw[e] at q;cases q
    ·injection q with q;rw[e] at q;injection q with q;subst q;exact hg'
   exact⟨by omega,fun q=>by injection q with q;simp only at q;omega⟩
  have hfl:8+(qcm (qhf hm mA mn mc md++(qhg At (bo (nms xs)).length ct (bo (nms xs))++qbh xs))).length≤400000:=by
   rw[hflat,List.length_append,List.length_append]
   rw[hmdl] at hPL
   omega
  have hpn:(qhf hm mA mn mc md++(qhg At (bo (nms xs)).length ct (bo (nms xs))++qbh xs)).length≤202:=by
   rw[List.length_append,List.length_append,qba Hfit.out]
   have h1:(qhf hm mA mn mc md).length≤1:=by unfold qhf;split<;>simp
   have h2:(qhg At (bo (nms xs)).length ct (bo (nms xs))).length≤1:=by unfold qhg;split<;>simp
   omega
  have HW:Hid (wout hm md xs=JR.qcx++qcm (qhf hm mA mn mc md++(qhg At (bo (nms xs)).length ct (bo (nms xs))++qbh xs))):=hid (by
   unfold wout qny
   rw[HF.out,if_pos rfl,hflat,hmdl])
  clear hflat hPL oT hb3 hrow3 ho3 hmdl hl4 h4
  generalize qhf hm mA mn mc md++(qhg At (bo (nms xs)).length ct (bo (nms xs))++qbh xs)=ps at *
  go_wp2_with fail
  refine (qru w.heap.size (g+1) _ 8 JR.qcx AP ps.length cP ps w4 hrow4 (by omega) ho4 (RdP.of oP) hA4 hx4 (by omega) hfl).mono ?_
  rintro e w5 ⟨rfl,v5,hrow5,ho5,hf5⟩
  obtain⟨A5,c5,rfl,_⟩:=ho5.reads
  have b5:=zjc (g+1) 0 hrow5
  go_wp2_with fail
  go_ret2
  refine⟨.slice A5 (8+(qcm ps).length) c5,by rw[HF.out];rfl,?_,hb04.trans hf5.below⟩
  rw[HW.out,show (JR.qcx++qcm ps).length=8+(qcm ps).length by rw[List.length_append];rfl]
  exact ho5
 ·have HW:Hid (wout hm md xs=[]):=hid (by unfold wout;rw[HF.out,if_neg hz])
  clear hf
  go_wp2_with fail
  go_ret2
  refine⟨.slice none 0 0,by rw[HF.out];rfl,?_,hb1⟩
  rw[HW.out]
  exact JB.Own.nil _ _
end JW
namespace JW
open JB JD JN JH JR
open JS (Fr blk)
end JW
namespace JW
open JB JD JN JH JR
open JS (Fr blk Oth)
end JW
namespace JW
open JB JD JN JH JR
open JS (Fr blk Oth)
def nA:ByteArray:=⟨#[97,46,111]⟩
def nL:ByteArray:=⟨#[97,45,118,101,114,121,45,108,111,110,103,45,110,97,109,101,46,111]⟩
def m1 (g:Nat):Mem:=⟨nA,0,0,0,0,some ⟨g,0,none⟩,1,1,[120]⟩
def m2:Mem:=⟨nL,0,0,0,0,none,0,0,[]⟩
end JW
end Go.Proofs.YtlmolmohhpdhdaaGreatDoor
