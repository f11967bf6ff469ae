/-
  arparse's reference: Copy; what of members counts for an
-/
import Derived.Test.YtlmolmohhpdhdaaGreatDoorYWk
import Derived.Test.YtlmolmohhpdhdaaGreatDoorYWs
set_option maxRecDepth 100000
set_option maxHeartbeats 16000000
set_option linter.all false
namespace Go.Proofs.YtlmolmohhpdhdaaGreatDoor
open Go.RowKit Go.Proofs
namespace JW
open JB JD JN JH JR
open JS (Fr blk Oth)
def core (x:Mem):Mem:={x with ptr:=none,cap:=0}
theorem Qbf (x:Mem):qca (core x)=qca x:=rfl
theorem qed:∀(k:Nat)(xs:List Mem),qbe k (xs.map core)=qbe k xs
 |_,[]=>rfl
 |k,x::r=>by
  rw[List.map_cons,qbe,qbe,Qbf,qed (k+1) r]
theorem qzf (xs:List Mem):nms (xs.map core)=nms xs:=by unfold nms;rw[List.map_map];rfl
theorem qv5:∀(fs:List ByteArray)(xs:List Mem),qbw (List.zipWith setN fs (xs.map core))=qbw (List.zipWith setN fs xs)
 |[],xs=>by simp
 |f::fs,[]=>rfl
 |f::fs,x::r=>by
  rw[List.map_cons,List.zipWith_cons_cons,List.zipWith_cons_cons];show qbw ([_]++_)=qbw ([_]++_)
  rw[qdb,qdb,qv5 fs r,qcp,qcp];rfl
theorem Qee (hm:Bool)(md:List UInt8)(xs:List Mem):qr2 hm md (xs.map core)=qr2 hm md xs:=by
 unfold qr2 qb5;rw[qzf,qv5]
theorem Qbg (o:Nat)(xs:List Mem)(k:Nat):qab o (xs.map core) k=qab o xs k:=by
 unfold qab;rw[<-List.map_take,List.map_map];rfl
theorem Qef (hm:Bool)(ms:Nat)(xs:List Mem):qez hm ms (xs.map core)=qez hm ms xs:=by
 unfold qez;rw[qzf]
theorem Qeg (o:Nat)(xs:List Mem):qky o (xs.map core)=qky o xs:=by
 unfold qky;rw[zlB];exact List.map_congr_left fun k _=>Qbg o xs k
theorem qkc {xs ys:List Mem}(h:ys.map core=xs.map core):ys.length=xs.length:=by
 have:=congrArg List.length h;rwa [zlB,zlB] at this
theorem qkd {xs ys:List Mem}(h:ys.map core=xs.map core)(hok:∀x∈xs,MOk x):∀y∈ys,MOk y:=fun y hy=>by
 have h1:core y∈xs.map core:=by rw[<-h];exact List.mem_map_of_mem hy
 obtain⟨x,hx,e⟩:=List.mem_map.1 h1;have hk:=hok x hx;have e0:y.name=x.name:=(congrArg Mem.name e).symm;have e1:y.len=x.len:=(congrArg Mem.len e).symm;have e2:y.time=x.time:=(congrArg Mem.time e).symm;have e3:y.uid=x.uid:=(congrArg Mem.uid e).symm;have e4:y.gid=x.gid:=(congrArg Mem.gid e).symm;have e5:y.mode=x.mode:=(congrArg Mem.mode e).symm;exact⟨by rw[e0];exact hk.name,by rw[e1];exact hk.len,by rw[e2];exact hk.t,by rw[e3];exact hk.u,by rw[e4];exact hk.g,by rw[e5];exact hk.m⟩
theorem qfg {w:World}{K n c:Nat}{A:Option Addr}{xs:List Mem}(h:JC.Own 46 6 w K (.slice A n c) n (qa8 xs))(hd:qft w K xs)(hs:∀x∈xs,x.len<=140737488355328):RdM w w.heap.size A n xs:=by
 obtain⟨A',c',e,hr,_⟩:=h.reads;injection e with e1 _ e3;subst e1 e3;have hl:xs.length=n:=by have:=hr.1;rw[qaq] at this;omega
 refine⟨hl,fun k hk=>⟨?_,?_,hs _ (zlq hk)⟩⟩
 ·obtain⟨q0,q1,q2,q3,q4,q5⟩:=qhu xs k hk
  have key:∀j v,(qa8 xs)[k * 6+j]?=some v->∃b o:Nat,A=some ⟨b,o,none⟩/\b<w.heap.size/\w.cell? ⟨b,o+k * 6+j,none⟩=some v:=fun j v hv=>by
   obtain⟨hj,e⟩:=zlv.1 hv;obtain⟨b,o,e2,hb,hc⟩:=hr.2 (k * 6+j) hj;exact⟨b,o,e2,hb,by rw[Nat.add_assoc,hc,e]⟩
  obtain⟨b,o,rfl,hb,k0⟩:=key 0 _ q0;obtain⟨b1,o1,e1,_,k1⟩:=key 1 _ q1;obtain⟨b2,o2,e2,_,k2⟩:=key 2 _ q2;obtain⟨b3,o3,e3,_,k3⟩:=key 3 _ q3;obtain⟨b4,o4,e4,_,k4⟩:=key 4 _ q4;obtain⟨b5,o5,e5,_,k5⟩:=key 5 _ q5;cases e1;cases e2;cases e3;cases e4;cases e5;exact⟨b,o,rfl,hb,k0,k1,k2,k3,k4,k5⟩
 ·obtain⟨A2,c2,e2,hr2,_⟩:=(hd _ (zlq hk)).reads;injection e2 with e3 _ _;rw[e3];exact hr2
def Copies (xs:List Mem)(w:World)(e:Ending)(w':World):Prop:=
 ∃A n c ys,e=.returned (.slice A n c)/\RdM w' w'.heap.size A n ys/\ys.map core=xs.map core/\Below w.heap.size w w'/\∀y∈ys,y.len<=y.cap/\y.cap<=maxLen
end JW
namespace JW
open JB JD JN JH JR
theorem Qeh {tab:Bool}{k:Nat}{n:Int}(h:okF tab k n=true):okF false k n=true:=by
 unfold okF at h |-;rw[if_neg (by simp)];split at h
 ·have h0:n=0:=by simpa using h
  subst h0;have h1:nd (bs k) 0=1:=qcu (by have:=(bs_2 k).1;omega);have h2:=(Qaf k).1;simp[h1,h2]
 ·exact h
theorem qpp {l:List UInt8}(h:qg6 l=0){k:Nat}(hk:k<5):okF false k (qak l k)=true:=by
 obtain⟨hl,_,_,hr⟩:=qkt h;obtain⟨x,hx⟩:=qsh 5 hk hr;have h1:=(qyu (qnt hl k hk) hx).1
 have h2:qak l k=(x:Int):=by
  unfold qak;rw[if_pos h,hx];rfl
 rw[h2];exact Qeh h1
theorem qrh {s:ByteArray}{f:Nat->Int}(hs:qa5 s=false)(h:∀k,k<5->okF false k (f k)=true):∀k,k<=5->qb4 s f k=true
 |0,_=>rfl
 |k+1,hk=>by
  unfold qb4;rw[qrh hs h k (by omega),hs,h k (by omega)];rfl
theorem qxw {l:List UInt8}{t:St}{k:Nat}(h:ar l=(t,k,0)){xs:List Mem}(hx:xs.map Mem.pure=t.mems)(hl:∀x∈xs,x.len=x.data.length):∀x∈xs,qca x=0/\x.name.size<=255/\x.time<9223372036854775808/\x.uid<9223372036854775808/\x.gid<9223372036854775808/\x.mode<9223372036854775808:=fun x hm=>by
 obtain⟨_,_,hf,_⟩:=ar_fit h;obtain⟨i,hi,rfl⟩:=List.mem_iff_getElem.1 hm;have hp:t.mems[i]?=some xs[i].pure:=by rw[<-hx,zlF,zlh hi];rfl
 obtain⟨p,_,_,hpe,_,q0,q1,q2,q3,q4,q5⟩:=hf i _ hp;have hd:=(qfb hpe).1;have hlen:=hl xs[i] hm
 have hz:(xs[i].len:Int)=qak (l.drop p) 4:=by
  rw[hlen,show xs[i].data=qbv (l.drop p) from q4,qhs hpe,qej]
 have hok:∀k,k<5->okF false k (num xs[i].time xs[i].uid xs[i].gid xs[i].mode (xs[i].len:Int) k)=true:=fun k hk=>by
  have hk':k=0∨k=1∨k=2∨k=3∨k=4:=by omega
  rcases hk' with rfl|rfl|rfl|rfl|rfl
  ·show okF false 0 xs[i].time=true
   rw[show xs[i].time=qak (l.drop p) 0 from q0];exact qpp hd (by omega)
  ·show okF false 1 xs[i].uid=true
   rw[show xs[i].uid=qak (l.drop p) 1 from q1];exact qpp hd (by omega)
  ·show okF false 2 xs[i].gid=true
   rw[show xs[i].gid=qak (l.drop p) 2 from q2];exact qpp hd (by omega)
  ·show okF false 3 xs[i].mode=true
   rw[show xs[i].mode=qak (l.drop p) 3 from q3];exact qpp hd (by omega)
  ·show okF false 4 (xs[i].len:Int)=true
   rw[hz];exact qpp hd (by omega)
 have n1:qaa ⟨#[47,48]⟩=true:=by decide+kernel
 have n2:qa5 ⟨#[47,48]⟩=false:=by decide+kernel
 have b0:=qpa (l.drop p) 0 (by omega);have b1:=qpa (l.drop p) 1 (by omega);have b2:=qpa (l.drop p) 2 (by omega);have b3:=qpa (l.drop p) 3 (by omega);have e0:xs[i].time=qak (l.drop p) 0:=q0;have e1:xs[i].uid=qak (l.drop p) 1:=q1;have e2:xs[i].gid=qak (l.drop p) 2:=q2;have e3:xs[i].mode=qak (l.drop p) 3:=q3;refine⟨?_,(qha q5).2,by omega,by omega,by omega,by omega⟩;unfold qca;rw[if_pos (show vld (bts xs[i].name)=true from q5)];exact (qjw n1 (qrh n2 hok 5 zjn)).1
end JW
end Go.Proofs.YtlmolmohhpdhdaaGreatDoor
