/-
  arwrite: the archive that is written, and why its parts fit
-/
import Derived.Test.YtlmolmohhpdhdaaGreatDoorYWa
set_option maxRecDepth 100000
set_option maxHeartbeats 16000000
set_option linter.all false
namespace Go.Proofs.YtlmolmohhpdhdaaGreatDoor
open Go.RowKit Go.Proofs Tryz
namespace JW
open JB JD JN JH JR
def qxs (x:Mem):Int:=qjb x.name (num x.time x.uid x.gid x.mode (x.len:Int))
def ptl (x:Mem):List UInt8:=mkp x.name (num x.time x.uid x.gid x.mode (x.len:Int)) x.data
def setN (f:ByteArray)(x:Mem):Mem:={x with name:=f}
def mpt (A:Option Addr)(n c:Nat)(d:List UInt8):Mem:=⟨⟨#[47]⟩,0,0,0,0,A,n,c,d⟩
def tpt (A:Option Addr)(n c:Nat)(d:List UInt8):Mem:=⟨⟨#[47,47]⟩,0,0,0,0,A,n,c,d⟩
def qb5 (xs:List Mem):List Mem:=List.zipWith setN (fo (nms xs)) xs
def qg8 (hm:Bool)(A:Option Addr)(n c:Nat)(d:List UInt8):List Mem:=if hm=true then [mpt A n c d] else []
def qfr (A:Option Addr)(n c:Nat)(d:List UInt8):List Mem:=if n=0 then [] else [tpt A n c d]
def qbw (ps:List Mem):List UInt8:=(ps.map ptl).flatten
def qr2 (hm:Bool)(md:List UInt8)(xs:List Mem):List UInt8:=
 JR.qbd++(qbw (qg8 hm none md.length 0 md)++(qbw (qfr none (bo (nms xs)).length 0 (bo (nms xs)))++qbw (qb5 xs)))
theorem qdb (a b:List Mem):qbw (a++b)=qbw a++qbw b:=by simp[qbw]
theorem qt1:qbw []=[]:=rfl
theorem qcp (x:Mem):qbw [x]=ptl x:=by simp[qbw]
theorem qpk {ps:List Mem}{k:Nat}(hk:k<ps.length):qbw (ps.take (k+1))=qbw (ps.take k)++ptl ps[k]:=by
 rw[zlg hk,qdb,qcp]
theorem Qe1 (hm:Bool)(A:Option Addr)(n c:Nat)(d:List UInt8):qbw (qg8 hm A n c d)=qbw (qg8 hm none n 0 d):=by
 unfold qg8;cases hm<;>rfl
theorem Qe2 (A:Option Addr)(n c:Nat)(d:List UInt8):qbw (qfr A n c d)=qbw (qfr none n 0 d):=by
 unfold qfr;split<;>rfl
theorem qgh:∀(k:Nat)(xs:List Mem),(qbe k xs).2=0↔∀x∈xs,qca x=0
 |_,[]=>by simp[qbe]
 |k,x::r=>by
  unfold qbe;by_cases h:qca x=0
  ·rw[if_pos h,qgh (k+1) r];simp[h]
  ·rw[if_neg h];simp[h]
theorem qip {x:Mem}(h:qca x=0):vld (bts x.name)=true/\qb4 ⟨#[47,48]⟩ (num x.time x.uid x.gid x.mode (x.len:Int)) 5=true:=by
 unfold qca at h;split at h
 ·rename_i hv
  refine⟨hv,?_⟩;unfold qjb at h;have h2:qaa ⟨#[47,48]⟩=true:=by decide+kernel
  rw[if_pos h2] at h;split at h
  ·assumption
  ·cases h
 ·cases h
theorem qux {s s':ByteArray}{f:Nat->Int}(h:qa5 s=qa5 s'):∀k,qb4 s f k=qb4 s' f k
 |0=>rfl
 |k+1=>by unfold qb4;rw[qux h k,h]
theorem no_bad {l:List UInt8}(h:∀c∈l,c≠10/\c≠0):JT.bad l=false:=by
 unfold JT.bad Lib.containsAny
 rw[Lib.indexAny_none (fun j b _ hb=>by
  have:=h b (List.mem_of_getElem? hb);simp[this.1,this.2])]
 rfl
theorem Qe3 {pre:List ByteArray}{n:ByteArray}(hv:vld (bts n)=true)(hl:(tab (qam pre)).length<=100000):qaa (fld pre n)=true/\qa5 (fld pre n)=false:=by
 unfold fld;by_cases hs:sht (bts n)=true
 ·rw[if_pos hs];have hs':=hs;unfold sht at hs';simp only[zlx,decide_eq_true_eq,Bool.not_eq_true',hv,true_and] at hs';obtain⟨h15,_⟩:=hs';have h1:=(qmd.1 hv).1;refine⟨qbu.2 ⟨?_,?_,?_,?_⟩,?_⟩
  ·rw[qat,zlb];simp
  ·rw[qat,zlb];simp;omega
  ·show JT.bad (bts (str _))=false
   rw[qac];refine no_bad fun c hc=>?_;rw[zlG] at hc;rcases hc with hc|hc
   ·have:=qwg hv hc;exact⟨this.2.1,this.2.2⟩
   ·simp at hc;subst hc;exact⟨by decide,by decide⟩
  ·show Lib.hasSuffix (bts (str _)) [32]=false
   rw[qac];unfold Lib.hasSuffix;cases h:List.isSuffixOf [32] (bts n++[47])
   ·rfl
   ·obtain⟨t,ht⟩:=List.isSuffixOf_iff_suffix.1 h;have:=congrArg List.getLast? ht;simp at this
  ·unfold qa5;rw[Lib.toList_data];show (bts (str _)==[47,47])=false
   rw[qac]
   match hb:bts n,h1 with
   |c::r,_=>
    have hc:=(qwg hv (c:=c) (by rw[hb];simp)).1;simp[hc]
 ·rw[if_neg hs];have hd:=qqt (B:=10) (by decide) (by decide) (tab (qam pre)).length;have hn:nd 10 (tab (qam pre)).length<=6:=qfp (by decide) (by decide) (by omega);have hp:=qmx 10 (tab (qam pre)).length;have hlen:=qb0 (B:=10) (by decide) (tab (qam pre)).length;generalize tx 10 (tab (qam pre)).length=d at *;have hdd:∀c∈d,48<=c.toNat/\c.toNat<58:=fun c hc=>by have:=qid.1 (hd c hc);omega
  refine⟨qbu.2 ⟨?_,?_,?_,?_⟩,?_⟩
  ·rw[qat,zlb];simp
  ·rw[qat,zlb];simp;omega
  ·show JT.bad (bts (str _))=false
   rw[qac];refine no_bad fun c hc=>?_;rw[zlG] at hc;rcases hc with hc|hc
   ·simp at hc;subst hc;exact⟨by decide,by decide⟩
   ·have:=hdd c hc;exact⟨fun e=>by subst e;simp at this,fun e=>by subst e;simp at this⟩
  ·show Lib.hasSuffix (bts (str _)) [32]=false
   rw[qac];unfold Lib.hasSuffix;cases h:List.isSuffixOf [32] ([47]++d)
   ·rfl
   ·obtain⟨t,ht⟩:=List.isSuffixOf_iff_suffix.1 h;have hm:(32:UInt8)∈[47]++d:=by rw[<-ht];simp
    rw[zlG] at hm;rcases hm with hm|hm
    ·simp at hm
    ·have:=hdd _ hm;simp at this
  ·unfold qa5;rw[Lib.toList_data];show (bts (str _)==[47,47])=false
   rw[qac]
   match d,hlen with
   |c::r,_=>
    have:=hdd c (by simp);have hc:c≠47:=fun e=>by subst e;simp at this
    simp[hc]
   |[],h=>exact absurd h (by simp;omega)
theorem qiq {A:Option Addr}{n c:Nat}{d:List UInt8}(hn:n<=1000000):qxs (mpt A n c d)=0:=by
 have h1:qaa ⟨#[47]⟩=true:=by decide+kernel
 have h2:qa5 ⟨#[47]⟩=false:=by decide+kernel
 have h3:nd 10 n<=10:=qfp (by decide) (by decide) (by omega);have h4:nd 8 0=1:=qcu (by decide);have h5:nd 10 0=1:=qcu (by decide);refine (qjw h1 ?_).1;simp[qb4,h2,okF,num,bs,wd,h4,h5,h3,mpt]
theorem qgy {A:Option Addr}{n c:Nat}{d:List UInt8}(hn:n<=1000000):qxs (tpt A n c d)=0:=by
 have h1:qaa ⟨#[47,47]⟩=true:=by decide+kernel
 have h2:qa5 ⟨#[47,47]⟩=true:=by decide+kernel
 have h3:nd 10 n<=10:=qfp (by decide) (by decide) (by omega);refine (qjw h1 ?_).1;simp[qb4,h2,okF,num,bs,wd,mo,h3,tpt]
theorem qfz {xs:List Mem}(h:∀x∈xs,qca x=0):qeu (nms xs)=true:=
 qb7.2 fun n hn=>by
  obtain⟨x,hx,rfl⟩:=List.mem_map.1 hn;exact (qip (h x hx)).1
theorem qb2 {xs:List Mem}(h:∀x∈xs,qca x=0):(qb5 xs).length=xs.length:=by
 unfold qb5;rw[List.length_zipWith,show fo (nms xs)=qj7 [] (nms xs) from if_pos (qfz h),qe2];simp[nms]
theorem fo_at {xs:List Mem}(h:∀x∈xs,qca x=0){k:Nat}(hk:k<xs.length):(fo (nms xs))[k]?=some (fld ((nms xs).take k) xs[k].name):=by
 rw[show fo (nms xs)=qj7 [] (nms xs) from if_pos (qfz h),Qgf [] (nms xs) k (by simpa [nms] using hk)];simp[nms]
theorem qgz {xs:List Mem}(h:∀x∈xs,qca x=0){k:Nat}(hk:k<xs.length):(qb5 xs)[k]'(by rw[qb2 h];exact hk)=setN (fld ((nms xs).take k) xs[k].name) xs[k]:=by
 unfold qb5;rw[List.getElem_zipWith];have h2:=fo_at h hk;obtain⟨h3,h4⟩:=zlv.1 h2;rw[h4]
theorem qka {xs:List Mem}(h:∀x∈xs,qca x=0)(hn:xs.length<=202){k:Nat}(hk:k<xs.length):qxs (setN (fld ((nms xs).take k) xs[k].name) xs[k])=0:=by
 obtain⟨hv,ha⟩:=qip (h xs[k] (zlq hk));have hal:qeu ((nms xs).take k)=true:=qb7.2 fun n hm=>qb7.1 (qfz h) n (List.mem_of_mem_take hm);have hl:=qh8 hal (k:=202) (by rw[zlu];simp[nms];omega);obtain⟨h1,h2⟩:=Qe3 (pre:=(nms xs).take k) hv (by omega);have h3:qa5 ⟨#[47,48]⟩=false:=by decide+kernel
 refine (qjw h1 ?_).1;rw[<-ha];exact qux (h2.trans h3.symm) 5
end JW
namespace JB
open JS (Fr Fr.ahead blk)
theorem kB:JC.Qar 22 5 1 1 (.int .u8 0):=⟨by kernel_rfl,by kernel_rfl,by kernel_rfl,by decide⟩
theorem Own.cel {w:World}{K n:Nat}{v:Value}{l:List UInt8}:Own w K v n l↔JC.Own 5 1 w K v n (enc l):=by
 unfold Own JC.Own;simp only[Nat.mul_one,qa3]
theorem Rd.cel {w:World}{K n:Nat}{A:Option Addr}{xs:List UInt8}(h:Rd w K A n xs):JC.Rd w K A n 1 (enc xs):=
 ⟨by rw[qa3,Nat.mul_one];exact h.1,fun k hk=>by
  rw[qa3] at hk;obtain⟨b,o,e,hl,hc⟩:=h.2 k hk;exact⟨b,o,e,hl,by rw[hc];simp[enc]⟩⟩
theorem qpm {ops:Array Oper}{rest:List Oper}{o:Oper}{a:Act}{Q:Exit->Act->World->Prop}(w:World)(K:Nat)(v:Value)(n:Nat)(l:List UInt8)
 (hown:Own w K v n l)(hK:K<=w.heap.size)(A:Option Addr)(k c B:Nat)(src:List UInt8)(hr:Rd w B A k src)(hsz:n+k<=1000000)(hgd:o.guard=none)(s x:Operand)
 (ho:o.op=.call {callee:=.builtin .append,args:=#[s,x],argTypes:=#[22,22]})
 (hs:a.eval s=v)(hx:a.eval x=.slice A k c)
 (h:∀v' w',Own w' K v' (n+k) (l++src)->Below K w w'->Fr v w v' w'->wpList prog ops Q rest (a.put o.dst v') w'):
 wpList prog ops Q (o::rest) a w:=by
 refine wpList_plain hgd fun K' hK'=>?_;obtain⟨v',w',hrun,r1,r2,r3⟩:=JC.Qd3 kB w K B o.type v n (enc l) (Own.cel.1 hown) hK A k c (enc src) hr.cel qhp hsz (by omega);unfold Oper.wp execOp;simp only[ho,resolve,invoke,builtin,Sem.run_bind,Sem.run_pure,Result.andThen_ok,List.map_toArray,List.map_cons,List.map_nil,hs,hx,hrun];exact hK' _ _ (h v' w' (Own.cel.2 (by rw[qbn];exact r1)) r2 r3)
theorem quy {ops:Array Oper}{rest:List Oper}{o:Oper}{a:Act}{Q:Exit->Act->World->Prop}(w:World)(K:Nat)(v:Value)(n:Nat)(l:List UInt8)(u:UInt8)(X:Int)(hX:X=(u.toNat:Int))
 (hown:Own w K v n l)(hK:K<=w.heap.size)(hn:n<1000000)(hgd:o.guard=none)(s x:Operand)
 (ho:o.op=.call {callee:=.builtin .append,args:=#[s,x],argTypes:=#[22,22]})
 (hs:a.eval s=v)(hx:a.eval x=.slice (some ⟨w.heap.size,0,none⟩) 1 1)
 (h:∀v' w',Own w' K v' (n+1) (l++[u])->Below K w w'->Fr v w v' w'->wpList prog ops Q rest (a.put o.dst v') w'):
 wpList prog ops Q (o::rest) a (w.alloc (.cells #[.int .u8 X] 5)):=by
 subst hX
 refine qpm _ K v n l (hown.alloc _) (by simp;omega) (some ⟨w.heap.size,0,none⟩) 1 1 (w.heap.size+1) [u] ⟨rfl,fun k hk=>⟨w.heap.size,0,rfl,by omega,?_⟩⟩ (by omega) hgd s x ho hs hx
  (fun v' w' h1 h2 h3=>h v' w' h1 (((Below.refl K w).alloc hK _).trans h2) (Fr.ahead _ h3))
 simp only[List.length_singleton] at hk;obtain rfl:k=0:=by omega
 rw[zlc _ w.heap.size (0+0) _ 5 (0,0) (zld w _)];rfl
theorem Qe4 {ops:Array Oper}{o:Oper}{a:Act}{C:Act->World->Prop}{Q:Exit->Act->World->Prop}{E:Prop}(w:World)(K:Nat)(v:Value)(n:Nat)(l:List UInt8)
 (hown:Own w K v n l)(hK:K<=w.heap.size)(A:Option Addr)(k c B:Nat)(src:List UInt8)(hr:Rd w B A k src)(hsz:n+k<=1000000)(hgd:o.guard=none)(s x:Operand)
 (ho:o.op=.call {callee:=.builtin .append,args:=#[s,x],argTypes:=#[22,22]})
 (hs:a.eval s=v)(hx:a.eval x=.slice A k c)
 (h:∀v' w',Own w' K v' (n+k) (l++src)->Below K w w'->Fr v w v' w'->C (a.put o.dst v') w'):
 if Region.wanted o (yielded ops a.tmps)=true then Oper.wp prog o a w C Q else E:=by
 have hw:Region.wanted o (yielded ops a.tmps)=true:=by simp[Region.wanted,hgd]
 rw[if_pos hw];obtain⟨v',w',hrun,r1,r2,r3⟩:=JC.Qd3 kB w K B o.type v n (enc l) (Own.cel.1 hown) hK A k c (enc src) hr.cel qhp hsz (by omega);unfold Oper.wp execOp;simp only[ho,resolve,invoke,builtin,Sem.run_bind,Sem.run_pure,Result.andThen_ok,List.map_toArray,List.map_cons,List.map_nil,hs,hx,hrun];exact h v' w' (Own.cel.2 (by rw[qbn];exact r1)) r2 r3
theorem Own.fr {w w':World}{K n:Nat}{v u u':Value}{l:List UInt8}(h:Own w K v n l)(ho:Fr u w u' w')(ha:JS.qe0 v u):Own w' K v n l:=
 Own.cel.2 ((Own.cel.1 h).fr ho ha)
theorem Own.blk_lt {w:World}{K n:Nat}{v:Value}{l:List UInt8}(h:Own w K v n l){k:Nat}(hk:blk v=some k):k<w.heap.size:=(Own.cel.1 h).blk_lt hk
theorem Own.blk_ge {w:World}{K n:Nat}{v:Value}{l:List UInt8}(h:Own w K v n l){k:Nat}(hk:blk v=some k):K<=k:=by
 rcases h.2 with ⟨rfl,_⟩|⟨g,cap,cur,m,rfl,hg,_⟩
 ·cases hk
 ·injection hk with hk;subst hk;exact hg
end JB
namespace JW
open JB JD JN JH JR
open JS (Fr blk)
structure Fw (K B:Nat) (v:Value) (W:World) (v':Value) (W':World):Prop where
 below:Below K W W'
 size:W.heap.size<=W'.heap.size
 keep:∀k,k<W.heap.size->k≠B->blk v≠some k->W'.heap[k]?=W.heap[k]?
 tgt:∀k,blk v'=some k->blk v=some k∨W.heap.size<=k
theorem Fw.refl (K B:Nat)(v:Value)(W:World):Fw K B v W v W:=⟨Below.refl _ _,Nat.le_refl _,fun _ _ _ _=>rfl,fun _ h=>.inl h⟩
theorem Fw.trans {K B:Nat}{v v' v'':Value}{W W' W'':World}(h:Fw K B v W v' W')(k:Fw K B v' W' v'' W''):Fw K B v W v'' W'':=
 ⟨h.below.trans k.below,Nat.le_trans h.size k.size,fun j hj hB hv=>by
  have:=h.size;rw[k.keep j (by omega) hB (fun e=>by rcases h.tgt j e with q|q;exact hv q;omega)];exact h.keep j hj hB hv,fun j hj=>by
  rcases k.tgt j hj with q|q
  ·exact h.tgt j q
  ·have:=h.size;exact .inr (by omega)⟩
theorem Fw.of_below {K B:Nat}{v:Value}{W W':World}(h:Below W.heap.size W W')(hK:K<=W.heap.size):Fw K B v W v W':=
 ⟨h.mono hK,h.size,fun k hk _ _=>h.block k hk,fun _ e=>.inl e⟩
theorem Fw.of_fr {K B:Nat}{v v':Value}{W W':World}(h:Fr v W v' W')(hb:Below K W W')(hs:W.heap.size<=W'.heap.size):Fw K B v W v' W':=
 ⟨hb,hs,fun k hk _ hv=>h.1 k hk hv,h.2⟩
def Apt (n:Nat)(A:Option Addr)(v:Value)(B:Nat):Prop:=∀a,0<n->A=some a->a.block≠B/\blk v≠some a.block
theorem Apt.fw {K B n:Nat}{A:Option Addr}{v v':Value}{W W':World}{xs:List UInt8}{K':Nat}(h:Apt n A v B)(hr:Rd W K' A n xs)(hK:K'<=W.heap.size)(hf:Fw K B v W v' W'):Apt n A v' B:=fun a hn e=>by
 obtain⟨h1,h2⟩:=h a hn e;refine⟨h1,fun q=>?_⟩;rcases hf.tgt _ q with q|q
 ·exact h2 q
 ·obtain⟨b,o,e2,hl,_⟩:=hr.2 0 (by rw[hr.1];exact hn);rw[e] at e2;injection e2 with e2;subst e2;simp only at q;omega
theorem qbi {W W':World}{b o:Nat}(h:W'.heap[b]?=W.heap[b]?):W'.cell? ⟨b,o,none⟩=W.cell? ⟨b,o,none⟩:=by
 unfold World.cell?;simp only[h]
theorem Rd.fw {K B n:Nat}{A:Option Addr}{v v':Value}{W W':World}{xs:List UInt8}{K':Nat}(hr:JB.Rd W K' A n xs)(hK:K'<=W.heap.size)(h:Apt n A v B)(hf:Fw K B v W v' W'):JB.Rd W' K' A n xs:=
 ⟨hr.1,fun k hk=>by
  obtain⟨b,o,e,hl,hc⟩:=hr.2 k hk;obtain⟨h1,h2⟩:=h _ (by have:=hr.1;omega) e;exact⟨b,o,e,hl,by rw[qbi (hf.keep b (by omega) h1 h2)];exact hc⟩⟩
theorem qzd {w:World}{K n:Nat}{v:Value}{l:List UInt8}(h:JB.Own w K v n l){B:Nat}{cs:Array Value}{t:TypeId}{m:Nat×Nat}(hB:w.heap[B]?=some (.cells cs t m))(ht:t≠5):blk v≠some B:=fun e=>by
 rcases h.2 with ⟨rfl,_⟩|⟨g,cap,cur,m',rfl,_,hg,_⟩
 ·cases e
 ·injection e with e;simp only at e;subst e;rw[hB] at hg;injection hg with hg;injection hg with _ hg _;exact ht hg
theorem Fw.set {K B:Nat}{v v':Value}{W:World}(hK:K<=B)(hv:∀k,blk v'=some k->blk v=some k∨W.heap.size<=k)(y:Value):Fw K B v W v' (W.setCell ⟨B,0,none⟩ y):=
 ⟨(Below.refl K W).setCell (p:=⟨B,0,none⟩) hK y,by have:=((Below.refl 0 W).setCell (p:=⟨B,0,none⟩) (Nat.zero_le _) y).size;exact this,fun k _ hk _=>zly W ⟨B,0,none⟩ y k hk,hv⟩
theorem Fw.row {K B:Nat}{v v':Value}{W W':World}(h:Fw K B v W v' W'){g:Nat}{o:Obj}(hg:W.heap[g]?=some o)(h1:g≠B)(h2:blk v≠some g):W'.heap[g]?=some o:=
 (h.keep g (zla.1 hg).1 h1 h2).trans hg
def qxt (x:Mem):Value:=.agg #[.string x.name,.int .i64 x.time,.int .i64 x.uid,.int .i64 x.gid,.int .i64 x.mode,.int .i64 (x.len:Int),.slice x.ptr x.len x.cap]
structure POk (x:Mem):Prop where
 err:qxs x=0
 name:x.name.size<=1000
 len:x.len<=100000
 t:x.time<9223372036854775808
 u:x.uid<9223372036854775808
 g:x.gid<9223372036854775808
 m:x.mode<9223372036854775808
theorem qff {x:Mem}(h:qxs x=0)(hl:x.data.length=x.len):(qqy x.name (num x.time x.uid x.gid x.mode (x.len:Int))).length=60/\(ptl x).length=60+x.len+x.len%2:=by
 obtain⟨_,_,_,_,_,q6⟩:=mkp_ok (s:=x.name) (f:=num x.time x.uid x.gid x.mode (x.len:Int)) (d:=x.data) h (by rw[hl];rfl) [];refine⟨q6,?_⟩;unfold ptl mkp;rw[zlb,zlb,q6,hl];split
 ·rename_i h;rw[List.length_singleton,h]
 ·rename_i h;rw[List.length_nil];omega
theorem qg7 (K B:Nat)(v:Value)(n:Nat)(l:List UInt8)(x:Mem)(w:World)(hB:w.heap[B]?=some (.cells #[v] 208 (0,0)))(hKB:K<=B)(ho:JB.Own w K v n l)(hn:n<=500000)(hx:POk x)
 (hr:JB.Rd w w.heap.size x.ptr x.len x.data)(ha:Apt x.len x.ptr v B):
 Calls prog 130 #[.pointer (some ⟨B,0,none⟩),qxt x] w fun e w'=>e=.returned (.int .i64 0)/\
  ∃v',w'.heap[B]?=some (.cells #[v'] 208 (0,0))/\JB.Own w' K v' (n+(ptl x).length) (l++ptl x)/\Fw K B v w v' w':=by
 obtain⟨Av,cv,rfl,_⟩:=ho.reads;have hBl:B<w.heap.size:=(zla.1 hB).1;have hxl:=hr.1;obtain⟨h60,hpl⟩:=qff hx.err hxl;have hpe:ptl x=qqy x.name (num x.time x.uid x.gid x.mode (x.len:Int))++x.data++(if x.len%2=1 then [10] else []):=by unfold ptl mkp;rw[hxl]
 obtain⟨herr0,hnm,hlen,ht,hu,hgd,hm⟩:=hx;unfold qxs at herr0;have He:=hid fun W=>qr6 x.name x.time x.uid x.gid x.mode (x.len:Int) W (by omega) ht hu hgd hm (by omega);unfold qc9 at He;rw[herr0] at He;have Hpe:=hid hpe;have Hpl:=hid hpl;have Hxl:=hid hxl;generalize ptl x=pt at *;obtain⟨x0,x1,x2,x3,x4,x5,x6,x7,x8⟩:=x;simp only[qxt] at *;generalize qqy x0 (num x1 x2 x3 x4 (x6:Int))=eb at *;rw[h60] at He;clear ht hu hgd hm hnm herr0 hpe hpl hxl;have hb0:=zjB w (.cells #[.string x0,.int .i64 x1,.int .i64 x2,.int .i64 x3,.int .i64 x4,.int .i64 (x6:Int),.slice x5 x6 x7] 264);have hrow:=zld w (.cells #[.string x0,.int .i64 x1,.int .i64 x2,.int .i64 x3,.int .i64 x4,.int .i64 (x6:Int),.slice x5 x6 x7] 264);have hsz0:w.heap.size<(w.alloc (.cells #[.string x0,.int .i64 x1,.int .i64 x2,.int .i64 x3,.int .i64 x4,.int .i64 (x6:Int),.slice x5 x6 x7] 264)).heap.size:=by rw[zlr];omega
 go_enter func130,ntmps130;go_upto_region 1 with fail
 generalize w.alloc (.cells #[.string x0,.int .i64 x1,.int .i64 x2,.int .i64 x3,.int .i64 x4,.int .i64 (x6:Int),.slice x5 x6 x7] 264)=w0 at *;have c0:=zjc w.heap.size 0 hrow;have c1:=zjc w.heap.size 1 hrow;have c2:=zjc w.heap.size 2 hrow;have c3:=zjc w.heap.size 3 hrow;have c4:=zjc w.heap.size 4 hrow;have c5:=zjc w.heap.size 5 hrow;go_wp2_with fail
 refine (He.out _).mono ?_;rintro e w1 ⟨ve,rfl,hoe,hb1⟩;obtain⟨Ae,ce,rfl,hre,_⟩:=hoe.reads;have hb01:=hb0.trans (hb1.mono hb0.size);have hrow1:=(hb1.block _ hsz0).trans hrow;have hB1:=(hb01.block B hBl).trans hB;have ho1:=ho.below hb01;have fw1:Fw K B (.slice Av n cv) w (.slice Av n cv) w1:=Fw.of_below hb01 (by omega);have hs1:=fw1.size;have hsP1:w.heap.size<w1.heap.size:=(zla.1 hrow1).1;have hvP:blk (.slice Av n cv)≠some w.heap.size:=fun e=>by have:=ho.blk_lt e;omega
 have hvB:=qzd ho hB (by decide);have b0:=zjc B 0 hB1;clear c0 c1 c2 c3 c4 c5 hrow hb0 hb1 hoe;go_upto_region 5 with (at_builtin;go_must (refine qpm w1 K (.slice Av n cv) n l ho1 (by omega) Ae 60 ce _ eb hre (by omega) rfl (.tmp 19) (.tmp 20) rfl rfl rfl ?_);intro v2 w2 ho2 hb2 hf2;obtain⟨A2,c2,rfl,_⟩:=ho2.reads;have hB2:=(hf2.1 B (by omega) hvB).trans hB1;have f2:∀o,w2.frozen? ⟨B,o,none⟩=false:=(fun o=>by simp[World.frozen?,hB2]);have d2:=zlc w2 B 0 _ _ _ hB2)
 have fw12:Fw K B (.slice Av n cv) w1 (.slice A2 (n+60) c2) (w2.setCell ⟨B,0,none⟩ (.slice A2 (n+60) c2)):=(Fw.of_fr hf2 hb2 hb2.size).trans (Fw.set hKB (fun _ h=>.inl h) _);have hB3:=zle w2 B 0 _ _ (.slice A2 (n+60) c2) hB2;have o3:=Own.cel.2 ((Own.cel.1 ho2).setc hB2 (by decide) 0 (.slice A2 (n+60) c2));have hPB:w.heap.size≠B:=by omega
 have hrow3:=fw12.row hrow1 hPB hvP;have hs3:=fw12.size;have hv2P:blk (.slice A2 (n+60) c2)≠some w.heap.size:=fun e=>by rcases fw12.tgt _ e with q|q;exact hvP q;omega
 have fw3:=fw1.trans fw12;have hr3:=Rd.fw hr zjn ha fw3;clear hB1 ho1 hs1 hrow1 hB2 hf2 f2 d2 hb2 ho2 hre b0 fw1 fw12;generalize w2.setCell ⟨B,0,none⟩ (.slice A2 (n+60) c2)=w3 at *;have hv2B:=qzd o3 hB3 (by decide);have hKs:K<=w3.heap.size:=by omega
 refine Ord.qaf.begin (fun W'=>W'.cell? ⟨B,0,none⟩=some (.slice A2 (n+60) c2)/\W'.cell? ⟨w.heap.size,6,none⟩=some (.slice x5 x6 x7)) 10 (by kernel_rfl) ?_;have hS0:(fun W'=>W'.cell? ⟨B,0,none⟩=some (.slice A2 (n+60) c2)/\W'.cell? ⟨w.heap.size,6,none⟩=some (.slice x5 x6 x7)) w3.drew:=⟨zlc w3 B 0 _ _ _ hB3,zlc w3 w.heap.size 6 _ _ _ hrow3⟩;refine zjV 0 24 hS0 ?_;refine zjV 1 25 hS0 ?_;refine zjV 2 26 hS0 ?_;refine zjV 3 27 hS0 ?_;refine zjV 4 28 hS0 ?_;refine zjV 5 29 hS0 ?_;refine zjV 6 30 hS0 ?_;refine Ord.qaf.step 7 (by kernel_rfl) rfl (fun C hC=>?_);refine Qe4 w3.drew K (.slice A2 (n+60) c2) (n+60) _ o3 hKs x5 x6 x7 w.heap.size x8 hr3 (by omega) (by rfl) _ _ (by rfl) (by rfl) (by rfl) ?_;intro v4 w4 ho4 hb4 hf4;obtain⟨A4,c4,rfl,_⟩:=ho4.reads;have hB4:=(hf4.1 B (show B<w3.heap.size by omega) hv2B).trans hB3;have hrow4:=(hf4.1 w.heap.size (show w.heap.size<w3.heap.size by omega) hv2P).trans hrow3;have hS4:(fun W'=>W'.cell? ⟨B,0,none⟩=some (.slice A2 (n+60) c2)/\W'.cell? ⟨w.heap.size,6,none⟩=some (.slice x5 x6 x7)) w4:=⟨zlc w4 B 0 _ _ _ hB4,zlc w4 w.heap.size 6 _ _ _ hrow4⟩;have f4:∀o,w4.frozen? ⟨B,o,none⟩=false:=fun o=>by simp[World.frozen?,hB4]
 have z4:=hS4.1;refine hC.out _ _ (fun _=>hS4) ?_;clear hC C;try simp only[zjA]
 refine Ord.qaf.step 8 (by kernel_rfl) rfl (fun C hC=>?_);go_simp;refine hC.out _ _ (fun _=>hS4) ?_;clear hC C;try simp only[zjA]
 refine Ord.qaf.step 9 (by kernel_rfl) rfl (fun C hC=>?_);go_simp;refine hC.out _ _ (fun _=>hS4) ?_;clear hC C;try simp only[zjA]
 refine Ord.qaf.step 10 (by kernel_rfl) rfl (fun C hC=>?_);go_simp;refine hC.out _ _ (fun hz=>absurd rfl hz) ?_;clear hC C;try simp only[zjA]
 refine Ord.qaf.done (by kernel_rfl) ?_ _;have fw34:Fw K B (.slice A2 (n+60) c2) w3.drew (.slice A4 (n+60+x6) c4) (w4.setCell ⟨B,0,none⟩ (.slice A4 (n+60+x6) c4)):=(Fw.of_fr hf4 hb4 hb4.size).trans (Fw.set hKB (fun _ h=>.inl h) _);have fw33:Fw K B (.slice A2 (n+60) c2) w3 (.slice A2 (n+60) c2) w3.drew:=Fw.of_below ((Below.refl _ _).drew) (by omega);have hB5:=zle w4 B 0 _ _ (.slice A4 (n+60+x6) c4) hB4;have o5:=Own.cel.2 ((Own.cel.1 ho4).setc hB4 (by decide) 0 (.slice A4 (n+60+x6) c4));have hrow5:=(fw33.trans fw34).row hrow3 hPB hv2P;have fw5:=fw3.trans (fw33.trans fw34);have hv4P:blk (.slice A4 (n+60+x6) c4)≠some w.heap.size:=fun e=>by rcases (fw33.trans fw34).tgt _ e with q|q;exact hv2P q;omega
 have hs5:=fw5.size;clear hS0 hS4 f4 z4 hB4 hrow4 hf4 hb4 ho4 hr3 hv2P hv2B hB3 o3 hrow3 hs3 hKs fw3 fw33 fw34;generalize w4.setCell ⟨B,0,none⟩ (.slice A4 (n+60+x6) c4)=w5 at *;have p6:=zjc w.heap.size 6 hrow5;have hv4B:=qzd o5 hB5 (by decide);have b5:=zjc B 0 hB5;by_cases hodd:x6%2=1
 ·have e1:(x6:Int).tmod 2=1:=by have:(x6:Int).tmod 2=((x6%2:Nat):Int):=rfl;rw[this,hodd];rfl
  have e2:IntKind.i64.wrap 1=1:=by decide
  have HP:Hid (pt=eb++x8++[10]):=hid (by rw[Hpe.out,if_pos hodd]);have HL:Hid (pt.length=60+x6+1):=hid (by rw[Hpl.out,hodd]);clear hodd Hpe Hpl;go_wp2_with (at_builtin;go_must (refine quy w5 K (.slice A4 (n+60+x6) c4) (n+60+x6) _ 10 _ rfl o5 (by omega) (by omega) rfl (.tmp 43) (.tmp 44) rfl rfl rfl ?_);intro v6 w6 ho6 hb6 hf6;obtain⟨A6,c6,rfl,_⟩:=ho6.reads;have hB6:=(hf6.1 B (by omega) hv4B).trans hB5;have f6:∀o,w6.frozen? ⟨B,o,none⟩=false:=(fun o=>by simp[World.frozen?,hB6]);have d6:=zlc w6 B 0 _ _ _ hB6)
  go_ret
  refine⟨rfl,.slice A6 (n+60+x6+1) c6,zle w6 B 0 _ _ _ hB6,?_,fw5.trans ((Fw.of_fr hf6 hb6 hb6.size).trans (Fw.set hKB (fun _ h=>.inl h) _))⟩;have o6:=Own.cel.2 ((Own.cel.1 ho6).setc hB6 (by decide) 0 (.slice A6 (n+60+x6+1) c6));rw[HL.out,HP.out];rw[show n+(60+x6+1)=n+60+x6+1 by omega,show l++(eb++x8++[10])=l++eb++x8++[10] by simp];exact o6
 ·have h0:x6%2=0:=by omega
  have e1:(x6:Int).tmod 2=0:=by have:(x6:Int).tmod 2=((x6%2:Nat):Int):=rfl;rw[this,h0];rfl
  have e2:IntKind.i64.wrap 0=0:=by decide
  have HP:Hid (pt=eb++x8):=hid (by rw[Hpe.out,if_neg hodd,zlJ]);have HL:Hid (pt.length=60+x6):=hid (by rw[Hpl.out,h0];rfl);clear hodd Hpe Hpl h0;go_wp2_with fail
  go_ret
  refine⟨rfl,.slice A4 (n+60+x6) c4,hB5,?_,fw5⟩;rw[HL.out,HP.out];rw[show n+(60+x6)=n+60+x6 by omega,show l++(eb++x8)=l++eb++x8 by simp];exact o5
def quz (w:World)(b o:Nat)(x:Mem):Prop:=
 w.cell? ⟨b,o,none⟩=some (.string x.name)/\w.cell? ⟨b,o+1,none⟩=some (.int .i64 x.time)/\w.cell? ⟨b,o+2,none⟩=some (.int .i64 x.uid)/\w.cell? ⟨b,o+3,none⟩=some (.int .i64 x.gid)/\w.cell? ⟨b,o+4,none⟩=some (.int .i64 x.mode)/\w.cell? ⟨b,o+5,none⟩=some (.int .i64 (x.len:Int))/\w.cell? ⟨b,o+6,none⟩=some (.slice x.ptr x.len x.cap)
theorem quz.eq {w w':World}{b o:Nat}{x:Mem}(h:quz w b o x)(hb:w'.heap[b]?=w.heap[b]?):quz w' b o x:=by
 unfold quz;simp only[qbi hb];exact h
def RdP (w:World)(A:Option Addr)(n:Nat)(ps:List Mem):Prop:=
 ps.length=n/\∀k (h:k<ps.length),∃b o:Nat,A=some ⟨b,o,none⟩/\b<w.heap.size/\quz w b (o+k * 7) ps[k]
theorem RdP.fw {K B n:Nat}{A:Option Addr}{v v':Value}{W W':World}{ps:List Mem}(hr:RdP W A n ps)(h:Apt n A v B)(hf:Fw K B v W v' W'):RdP W' A n ps:=
 ⟨hr.1,fun k hk=>by
  obtain⟨b,o,e,hl,hc⟩:=hr.2 k hk;obtain⟨h1,h2⟩:=h _ (by have:=hr.1;omega) e;exact⟨b,o,e,by have:=hf.size;omega,hc.eq (hf.keep b hl h1 h2)⟩⟩
structure PRd (w:World) (v:Value) (B:Nat) (x:Mem):Prop where
 rd:JB.Rd w w.heap.size x.ptr x.len x.data
 apt:Apt x.len x.ptr v B
 ok:POk x
theorem PRd.fw {K B:Nat}{v v':Value}{W W':World}{x:Mem}(h:PRd W v B x)(hf:Fw K B v W v' W'):PRd W' v' B x:=
 ⟨(Rd.fw h.rd zjn h.apt hf).more hf.size,h.apt.fw h.rd zjn hf,h.ok⟩
theorem qxu (ps:List Mem)(k:Nat):(qbw (ps.take k)).length<=(qbw ps).length:=by
 have e:=qdb (ps.take k) (ps.drop k);rw[List.take_append_drop] at e;rw[e,zlb];omega
theorem qv0 (K B:Nat)(v:Value)(m:Nat)(l:List UInt8)(A:Option Addr)(n c:Nat)(ps:List Mem)(w:World)(hB:w.heap[B]?=some (.cells #[v] 208 (0,0)))(hKB:K<=B)(ho:JB.Own w K v m l)
 (hP:RdP w A n ps)(hA:Apt n A v B)(hx:∀x∈ps,PRd w v B x)(hn:n<=1000000)(hm:m+(qbw ps).length<=400000):
 Calls prog 128 #[.slice A n c,.func (.func 130) #[.pointer (some ⟨B,0,none⟩)] #[]] w fun e w'=>e=.returned (.int .i64 0)/\
  ∃v',w'.heap[B]?=some (.cells #[v'] 208 (0,0))/\JB.Own w' K v' (m+(qbw ps).length) (l++qbw ps)/\Fw K B v w v' w':=by
 have Hl:=hid hP.1;have hBl:B<w.heap.size:=(zla.1 hB).1;have hvB:=qzd ho hB (by decide);go_enter func128,ntmps128;go_wp2_with fail
 go_loopw [10] (fun i W=>∃(k:Nat)(v':Value),i=.int .i64 (k:Int)/\k<=n/\W.heap[B]?=some (.cells #[v'] 208 (0,0))/\JB.Own W K v' (m+(qbw (ps.take k)).length) (l++qbw (ps.take k))/\Fw K B v w v' W) (fun i _=>n-(intOf i).toNat)
 case atStart=>exact⟨0,v,rfl,by omega,hB,by simpa [qt1] using ho,Fw.refl _ _ _ _⟩
 case round=>
  obtain⟨k,v',rfl,hk,hBk,hok,hf⟩:=hrel;by_cases hlt:k<n
  ·have hkl:k<ps.length:=by have:=Hl.out;omega
   have hki:(k:Int)<(n:Int):=by omega
   have hle:=hid (qxu ps (k+1));have hS:=hid (qpk hkl);have hxk:=(hx ps[k] (zlq hkl)).fw hf;obtain⟨b,o,rfl,hbl,hcell⟩:=(hP.fw hA hf).2 k hkl;obtain⟨hbB,hbv⟩:=(hA _ (by omega) rfl);generalize ps[k]=x at *
   have hfa:Fw K B v' wr v' (wr.alloc (.cells #[.string x.name,.int .i64 x.time,.int .i64 x.uid,.int .i64 x.gid,.int .i64 x.mode,.int .i64 (x.len:Int),.slice x.ptr x.len x.cap] 264)):=
    Fw.of_below ((Below.refl _ _).alloc zjn _) (by have:=hf.size;omega)
   have hrow:=zld wr (.cells #[.string x.name,.int .i64 x.time,.int .i64 x.uid,.int .i64 x.gid,.int .i64 x.mode,.int .i64 (x.len:Int),.slice x.ptr x.len x.cap] 264);have hBlt:=(zla.1 hBk).1;have hB1:=(zlz wr (.cells #[.string x.name,.int .i64 x.time,.int .i64 x.uid,.int .i64 x.gid,.int .i64 x.mode,.int .i64 (x.len:Int),.slice x.ptr x.len x.cap] 264) B hBlt).trans hBk;have ho1:=hok.alloc (.cells #[.string x.name,.int .i64 x.time,.int .i64 x.uid,.int .i64 x.gid,.int .i64 x.mode,.int .i64 (x.len:Int),.slice x.ptr x.len x.cap] 264);have hx1:=hxk.fw hfa;obtain⟨F,hF⟩:∃F,qbw (ps.take k)=F:=⟨_,rfl⟩;rw[hF] at hS ho1;have hle2:m+F.length<=400000:=by have:=hle.out;rw[hS.out,zlb] at this;omega
   have Ha:=hid (qg7 K B v' (m+F.length) (l++F) x _ hB1 hKB ho1 (by omega) hx1.ok hx1.rd hx1.apt);unfold qxt at Ha;have hf1:=hf.trans hfa;generalize ptl x=pt at *;clear hfa hB1 ho1 hx1 hok hBk hxk hF hle hle2;obtain⟨x0,x1,x2,x3,x4,x5,x6,x7,x8⟩:=x;obtain⟨p0,p1,p2,p3,p4,p5,p6⟩:=hcell;simp only at *;go_upto_region 4 with fail
   generalize wr.alloc (.cells #[.string x0,.int .i64 x1,.int .i64 x2,.int .i64 x3,.int .i64 x4,.int .i64 (x6:Int),.slice x5 x6 x7] 264)=w1 at *;generalize wr.heap.size=g at *;have zzc:=fun k=>zjc g k hrow;go_wp2_with fail
   refine Ha.out.mono ?_;rintro e w2 ⟨rfl,v2,hB2,ho2,hf2⟩;clear zzc hrow p0 p1 p2 p3 p4 p5 p6;have hf02:=hf1.trans hf2;go_wp2_with fail
   go_roundw
   all_goals first
    |exact⟨k+1,v2,by go_num,by omega,hB2,by rw[hS.out,zlb,<-Nat.add_assoc,<-zln];exact ho2,hf02⟩
    |(simp[intOf];omega)
  ·obtain rfl:k=n:=by omega
   have hT:ps.take k=ps:=zlj (by have:=Hl.out;omega);rw[hT] at hok;go_wp2_with fail
   go_ret
   exact⟨rfl,v',hBk,hok,hf⟩
end JW
namespace JW
open JB JD JN JH JR
open JS (Fr blk Oth)
def pcl:List Mem->List Value
 |[]=>[]
 |x::r=>[.string x.name,.int .i64 x.time,.int .i64 x.uid,.int .i64 x.gid,.int .i64 x.mode,.int .i64 (x.len:Int),.slice x.ptr x.len x.cap]++pcl r
theorem qir:∀a b:List Mem,pcl (a++b)=pcl a++pcl b
 |[],b=>rfl
 |x::r,b=>by rw[zlE,pcl,qir r b,pcl,zln]
theorem qkz:∀a:List Mem,(pcl a).length=a.length * 7
 |[]=>rfl
 |x::r=>by rw[pcl,zlb,qkz r,zlk];simp;omega
theorem pcl_at:∀(a:List Mem)(k:Nat)(h:k<a.length),(pcl a)[k * 7]?=some (.string a[k].name)/\(pcl a)[k * 7+1]?=some (.int .i64 a[k].time)/\(pcl a)[k * 7+2]?=some (.int .i64 a[k].uid)/\(pcl a)[k * 7+3]?=some (.int .i64 a[k].gid)/\(pcl a)[k * 7+4]?=some (.int .i64 a[k].mode)/\(pcl a)[k * 7+5]?=some (.int .i64 (a[k].len:Int))/\(pcl a)[k * 7+6]?=some (.slice a[k].ptr a[k].len a[k].cap)
 |x::r,0,_=>by simp[pcl]
 |x::r,k+1,h=>by
  have ih:=pcl_at r k (by simpa using h)
  have e:∀j,(pcl (x::r))[(k+1) * 7+j]?=(pcl r)[k * 7+j]?:=fun j=>by
   rw[pcl,zlC (by simp;omega)];congr 1
   simp;omega
  have e0:=e 0;rw[Nat.add_zero,Nat.add_zero] at e0;rw[e0,e 1,e 2,e 3,e 4,e 5,e 6];simpa using ih
theorem kP:JC.Qar 210 264 7 80 (.agg #[.string ⟨#[]⟩,.int .i64 0,.int .i64 0,.int .i64 0,.int .i64 0,.int .i64 0,.slice none 0 0]):=⟨by kernel_rfl,by kernel_rfl,by kernel_rfl,by decide⟩
theorem RdP.of {w:World}{K n c:Nat}{A:Option Addr}{ps:List Mem}(h:JC.Own 264 7 w K (.slice A n c) n (pcl ps)):RdP w A n ps:=by
 obtain⟨A',c',e,hr,_⟩:=h.reads;injection e with e1 _ e3;subst e1 e3;have hl:ps.length=n:=by have:=hr.1;rw[qkz] at this;omega
 refine⟨hl,fun k hk=>?_⟩;obtain⟨q0,q1,q2,q3,q4,q5,q6⟩:=pcl_at ps k hk
 have key:∀j v,(pcl ps)[k * 7+j]?=some v->∃b o:Nat,A=some ⟨b,o,none⟩/\b<w.heap.size/\w.cell? ⟨b,o+k * 7+j,none⟩=some v:=fun j v hv=>by
  obtain⟨hj,e⟩:=zlv.1 hv;obtain⟨b,o,e2,hb,hc⟩:=hr.2 (k * 7+j) hj;exact⟨b,o,e2,hb,by rw[Nat.add_assoc,hc,e]⟩
 obtain⟨b,o,rfl,hb,k0⟩:=key 0 _ q0;obtain⟨b1,o1,e1,_,k1⟩:=key 1 _ q1;obtain⟨b2,o2,e2,_,k2⟩:=key 2 _ q2;obtain⟨b3,o3,e3,_,k3⟩:=key 3 _ q3;obtain⟨b4,o4,e4,_,k4⟩:=key 4 _ q4;obtain⟨b5,o5,e5,_,k5⟩:=key 5 _ q5;obtain⟨b6,o6,e6,_,k6⟩:=key 6 _ q6;cases e1;cases e2;cases e3;cases e4;cases e5;cases e6;exact⟨b,o,rfl,hb,k0,k1,k2,k3,k4,k5,k6⟩
theorem qbb {t:TypeId}{w w':World}{K n:Nat}{v:Value}{l:List ByteArray}(h:JS.Own w K v n l)(ho:Oth t w w')(ht:t≠9):JS.Own w' K v n l:=by
 refine⟨h.1,?_⟩;rcases h.2 with h|⟨g,cap,cur,m,hv,hg,hh,r⟩
 ·exact .inl h
 ·exact .inr ⟨g,cap,cur,m,hv,hg,ho g _ hh (fun cs m' e=>by injection e with _ e _;exact ht e.symm),r⟩
theorem qai {t:TypeId}{w w':World}{K n:Nat}{v:Value}{l:List UInt8}(h:JB.Own w K v n l)(ho:Oth t w w')(ht:5≠t):JB.Own w' K v n l:=
 Own.cel.2 ((Own.cel.1 h).oth ho ht)
def Parts (hm:Bool)(mA:Option Addr)(mn mc:Nat)(md:List UInt8)(xs:List Mem)(w:World)(e:Ending)(w':World):Prop:=
 ∃(AP:Option Addr)(cP:Nat)(At:Option Addr)(ct:Nat),e=.returned (.slice AP (qg8 hm mA mn mc md++(qfr At (bo (nms xs)).length ct (bo (nms xs))++qb5 xs)).length cP)/\
  JC.Own 264 7 w' w.heap.size (.slice AP (qg8 hm mA mn mc md++(qfr At (bo (nms xs)).length ct (bo (nms xs))++qb5 xs)).length cP) (qg8 hm mA mn mc md++(qfr At (bo (nms xs)).length ct (bo (nms xs))++qb5 xs)).length (pcl (qg8 hm mA mn mc md++(qfr At (bo (nms xs)).length ct (bo (nms xs))++qb5 xs)))/\
  JB.Own w' w.heap.size (.slice At (bo (nms xs)).length ct) (bo (nms xs)).length (bo (nms xs))/\Below w.heap.size w w'
theorem Parts.fin {hm:Bool}{mA:Option Addr}{mn mc:Nat}{md:List UInt8}{xs:List Mem}{w:World}{At:Option Addr}{tn ct:Nat}(htn:(bo (nms xs)).length=tn){pre:List Mem}(hpre:qg8 hm mA mn mc md++qfr At tn ct (bo (nms xs))=pre){A1:Option Addr}{q c1:Nat}{W:World}
 (h1:JC.Own 264 7 W w.heap.size (.slice A1 q c1) q (pcl (pre++qb5 xs)))(h2:JB.Own W w.heap.size (.slice At tn ct) tn (bo (nms xs)))(h3:Below w.heap.size w W):Parts hm mA mn mc md xs w (.returned (.slice A1 q c1)) W:=by
 subst htn;have e1:qg8 hm mA mn mc md++(qfr At (bo (nms xs)).length ct (bo (nms xs))++qb5 xs)=pre++qb5 xs:=by rw[<-zln,hpre]
 have e2:(pre++qb5 xs).length=q:=by have:=h1.1;rw[qkz] at this;omega
 refine⟨A1,c1,At,ct,?_,?_,h2,h3⟩
 ·rw[e1,e2]
 ·rw[e1,e2];exact h1
theorem Qe5 (hm:Bool)(mA:Option Addr)(mn mc:Nat)(md:List UInt8)(K:Nat)(A:Option Addr)(n c:Nat)(xs:List Mem)(w:World)(hg:qev w)(h:RdM w K A n xs)(hK:K<=w.heap.size)(hok:∀x∈xs,MOk x)(hn:n<=200)(hfit:∀x∈xs,qca x=0):
 Calls prog 129 #[.bool hm,.slice mA mn mc,.slice A n c] w (Parts hm mA mn mc md xs w):=by
 have Hl:=hid h.1;have Hg:=hid hg;have Hfit:=hid hfit;have hlen:=hid (qpj (nms xs));have hnl:Hid ((nms xs).length=n):=hid (by simp[nms,Hl.out]);have hfl:Hid ((fo (nms xs)).length=n):=hid (by rw[show fo (nms xs)=qj7 [] (nms xs) from if_pos (qfz hfit),qe2,hnl.out]);have HL:=hid (qk9 K A n c xs);clear hg hfit;go_enter func129,ntmps129;cases hm
 case' false=>
  have o0:JC.Own 264 7 w w.heap.size (.slice none 0 0) 0 (pcl (qg8 false mA mn mc md)):=JC.Own.nil _ _ _ _;have hb1:=Below.refl w.heap.size w;go_wp2_with fail
  refine (HL.out w (Hg.out.on hb1) (h.below (hb1.mono hK)) (by have:=hb1.size;omega) hok (by omega)).mono ?_;rintro e w2 ⟨v,f,rfl,oT,oF,hb2⟩;obtain⟨At,ct,rfl,_⟩:=oT.reads;obtain⟨Af,cf,rfl,_⟩:=oF.reads;have hb02:=hb1.trans (hb2.mono hb1.size);have oP0:=o0.below hb2;replace oT:=oT.more hb1.size;replace oF:=oF.more hb1.size;rw[hfl.out] at oF;obtain⟨tn,htn⟩:∃tn,(bo (nms xs)).length=tn:=⟨_,rfl⟩;have HTn:=hid htn;rw[htn,hfl.out];rw[htn] at oT;have htb:tn<=52000:=by have:=hlen.out;rw[htn] at this;have:=hnl.out;omega
  clear o0 hb1 hb2 htn;by_cases ht0:tn=0
  case' pos=>
   have hti:¬(0:Int)<(tn:Int):=by omega
   obtain⟨pre,hpre⟩:∃pre,qg8 false mA mn mc md++qfr At tn ct (bo (nms xs))=pre:=⟨_,rfl⟩;have HPre:=hid hpre;have oP:=oP0;have hbq:=hb02;rw[show qg8 false mA mn mc md=pre by rw[<-hpre,ht0];simp[qfr]] at oP;clear hpre oP0 hb02;go_wp2_with fail
   obtain⟨Ap,cp,q,Hv,hq2,oPq⟩:∃(Ap:Option Addr)(cp q:Nat),Hid (Value.slice none 0 0=.slice Ap (q+0) cp)/\q<=2/\JC.Own 264 7 w2 w.heap.size (.slice Ap (q+0) cp) (q+0) (pcl (pre++(qb5 xs).take 0)):=⟨none,0,0,hid rfl,by omega,by simpa using oP⟩;clear oP
  case' neg=>
   have hti:(0:Int)<(tn:Int):=by omega
   obtain⟨pre,hpre⟩:∃pre,qg8 false mA mn mc md++qfr At tn ct (bo (nms xs))=pre:=⟨_,rfl⟩;have HPre:=hid hpre;go_wp2_with (at_builtin;go_must (refine JC.qa4 kP w2 w.heap.size _ 0 _ oP0 hb02.size 1 1 #[.string ⟨#[47,47]⟩,.int .i64 0,.int .i64 0,.int .i64 0,.int .i64 0,.int .i64 (tn:Int),.slice At tn ct] (0,0) rfl (by simp[Value.oneCell']) (by omega) (by omega) rfl (.tmp 29) (.tmp 35) rfl rfl rfl ?_);intro v3 w3 oP hb3 hot3 _;obtain⟨A3,c3,rfl,_⟩:=oP.reads;have oF3:=qbb oF hot3 (by decide);have oT3:=qai oT hot3 (by decide);have hbq:=hb02.trans hb3;clear oP0 hb02 hot3 hb3 oF oT;have oF:=oF3;have oT:=oT3;clear oF3 oT3)
   obtain⟨Ap,cp,q,Hv,hq2,oPq⟩:∃(Ap:Option Addr)(cp q:Nat),Hid (Value.slice A3 (0+1) c3=.slice Ap (q+0) cp)/\q<=2/\JC.Own 264 7 w3 w.heap.size (.slice Ap (q+0) cp) (q+0) (pcl (pre++(qb5 xs).take 0)):=⟨A3,c3,0+1,hid rfl,by omega,by rw[<-hpre];simpa [qfr,ht0,qir,pcl,tpt] using oP⟩;clear oP hpre
 case' true=>
  have o00:JC.Own 264 7 w w.heap.size (.slice none 0 0) 0 []:=JC.Own.nil _ _ _ _;go_wp2_with (at_builtin;go_must (refine JC.qa4 kP w w.heap.size _ 0 _ o00 zjn 1 1 #[.string ⟨#[47]⟩,.int .i64 0,.int .i64 0,.int .i64 0,.int .i64 0,.int .i64 (mn:Int),.slice mA mn mc] (0,0) rfl (by simp[Value.oneCell']) (by omega) (by omega) rfl (.tmp 13) (.tmp 19) rfl rfl rfl ?_);intro v1 w1 o0 hb1 _ _;obtain⟨A0,c0,rfl,_⟩:=o0.reads;replace o0:JC.Own 264 7 w1 w.heap.size (.slice A0 (0+1) c0) (0+1) (pcl (qg8 true mA mn mc md)):=o0;clear o00)
  refine (HL.out w1 (Hg.out.on hb1) (h.below (hb1.mono hK)) (by have:=hb1.size;omega) hok (by omega)).mono ?_;rintro e w2 ⟨v,f,rfl,oT,oF,hb2⟩;obtain⟨At,ct,rfl,_⟩:=oT.reads;obtain⟨Af,cf,rfl,_⟩:=oF.reads;have hb02:=hb1.trans (hb2.mono hb1.size);have oP0:=o0.below hb2;replace oT:=oT.more hb1.size;replace oF:=oF.more hb1.size;rw[hfl.out] at oF;obtain⟨tn,htn⟩:∃tn,(bo (nms xs)).length=tn:=⟨_,rfl⟩;have HTn:=hid htn;rw[htn,hfl.out];rw[htn] at oT;have htb:tn<=52000:=by have:=hlen.out;rw[htn] at this;have:=hnl.out;omega
  clear o0 hb1 hb2 htn;by_cases ht0:tn=0
  case' pos=>
   have hti:¬(0:Int)<(tn:Int):=by omega
   obtain⟨pre,hpre⟩:∃pre,qg8 true mA mn mc md++qfr At tn ct (bo (nms xs))=pre:=⟨_,rfl⟩;have HPre:=hid hpre;have oP:=oP0;have hbq:=hb02;rw[show qg8 true mA mn mc md=pre by rw[<-hpre,ht0];simp[qfr]] at oP;clear hpre oP0 hb02;go_wp2_with fail
   obtain⟨Ap,cp,q,Hv,hq2,oPq⟩:∃(Ap:Option Addr)(cp q:Nat),Hid (Value.slice A0 (0+1) c0=.slice Ap (q+0) cp)/\q<=2/\JC.Own 264 7 w2 w.heap.size (.slice Ap (q+0) cp) (q+0) (pcl (pre++(qb5 xs).take 0)):=⟨A0,c0,0+1,hid rfl,by omega,by simpa using oP⟩;clear oP
  case' neg=>
   have hti:(0:Int)<(tn:Int):=by omega
   obtain⟨pre,hpre⟩:∃pre,qg8 true mA mn mc md++qfr At tn ct (bo (nms xs))=pre:=⟨_,rfl⟩;have HPre:=hid hpre;go_wp2_with (at_builtin;go_must (refine JC.qa4 kP w2 w.heap.size _ (0+1) _ oP0 hb02.size 1 1 #[.string ⟨#[47,47]⟩,.int .i64 0,.int .i64 0,.int .i64 0,.int .i64 0,.int .i64 (tn:Int),.slice At tn ct] (0,0) rfl (by simp[Value.oneCell']) (by omega) (by omega) rfl (.tmp 29) (.tmp 35) rfl rfl rfl ?_);intro v3 w3 oP hb3 hot3 _;obtain⟨A3,c3,rfl,_⟩:=oP.reads;have oF3:=qbb oF hot3 (by decide);have oT3:=qai oT hot3 (by decide);have hbq:=hb02.trans hb3;clear oP0 hb02 hot3 hb3 oF oT;have oF:=oF3;have oT:=oT3;clear oF3 oT3)
   obtain⟨Ap,cp,q,Hv,hq2,oPq⟩:∃(Ap:Option Addr)(cp q:Nat),Hid (Value.slice A3 (0+1+1) c3=.slice Ap (q+0) cp)/\q<=2/\JC.Own 264 7 w3 w.heap.size (.slice Ap (q+0) cp) (q+0) (pcl (pre++(qb5 xs).take 0)):=⟨A3,c3,0+1+1,hid rfl,by omega,by rw[<-hpre];simpa [qfr,ht0,qir,pcl,tpt] using oP⟩;clear oP hpre
 all_goals
  go_loopw [39,7] (fun i v W=>∃(k:Nat)(A1:Option Addr)(c1:Nat),i=.int .i64 (k:Int)/\v=.slice A1 (q+k) c1/\k<=n/\JC.Own 264 7 W w.heap.size (.slice A1 (q+k) c1) (q+k) (pcl (pre++(qb5 xs).take k))/\JS.Own W w.heap.size (.slice Af n cf) n (fo (nms xs))/\JB.Own W w.heap.size (.slice At tn ct) tn (bo (nms xs))/\Below w.heap.size w W) (fun i _ _=>n-(intOf i).toNat)
  case atStart=>exact⟨0,Ap,cp,rfl,Hv.out,by omega,oPq,oF,oT,hbq⟩
  case round=>
   obtain⟨k,A1,c1,rfl,rfl,hk,hO,hF,hT,hb⟩:=hrel;by_cases hlt:k<n
   ·have hkl:k<xs.length:=by have:=Hl.out;omega
    have hki:(k:Int)<(n:Int):=by omega
    obtain⟨⟨b,o,rfl,hbK,hcell⟩,_,_⟩:=(h.below (hb.mono hK)).2 k hkl;have HB:=hid (qgz Hfit.out hkl);have HBl:=hid (qb2 Hfit.out);obtain⟨fk,hfk⟩:∃fk,fld ((nms xs).take k) xs[k].name=fk:=⟨_,rfl⟩
    have HT:Hid (pcl (pre++(qb5 xs).take (k+1))=pcl (pre++(qb5 xs).take k)++[.string fk,.int .i64 xs[k].time,.int .i64 xs[k].uid,.int .i64 xs[k].gid,.int .i64 xs[k].mode,.int .i64 (xs[k].len:Int),.slice xs[k].ptr xs[k].len xs[k].cap]):=hid (by
     rw[zlg (by rw[HBl.out];exact hkl),HB.out,hfk,<-zln,qir (pre++_)];rfl)
    have HFk:Hid ((fo (nms xs))[k]?=some fk):=hid (by rw[<-hfk];exact fo_at Hfit.out hkl);have hF1:=hF.alloc (.cells #[.string xs[k].name,.int .i64 xs[k].time,.int .i64 xs[k].uid,.int .i64 xs[k].gid,.int .i64 xs[k].mode,.slice xs[k].ptr xs[k].len xs[k].cap] 46);have hT1:=hT.alloc (.cells #[.string xs[k].name,.int .i64 xs[k].time,.int .i64 xs[k].uid,.int .i64 xs[k].gid,.int .i64 xs[k].mode,.slice xs[k].ptr xs[k].len xs[k].cap] 46);have hO1:=hO.alloc (.cells #[.string xs[k].name,.int .i64 xs[k].time,.int .i64 xs[k].uid,.int .i64 xs[k].gid,.int .i64 xs[k].mode,.slice xs[k].ptr xs[k].len xs[k].cap] 46);have hb1:=hb.alloc hb.size (.cells #[.string xs[k].name,.int .i64 xs[k].time,.int .i64 xs[k].uid,.int .i64 xs[k].gid,.int .i64 xs[k].mode,.slice xs[k].ptr xs[k].len xs[k].cap] 46);have hrow:=zld wr (.cells #[.string xs[k].name,.int .i64 xs[k].time,.int .i64 xs[k].uid,.int .i64 xs[k].gid,.int .i64 xs[k].mode,.slice xs[k].ptr xs[k].len xs[k].cap] 46);clear hfk HB HBl hO hF hT hb;generalize xs[k]=x at *;have Hm:=hid fun W=>qhh fk x W;obtain⟨x0,x1,x2,x3,x4,x5,x6,x7,x8⟩:=x;obtain⟨p0,p1,p2,p3,p4,p5⟩:=hcell;simp only[Mem.val] at *;go_upto_region 10 with fail
    generalize wr.alloc (.cells #[.string x0,.int .i64 x1,.int .i64 x2,.int .i64 x3,.int .i64 x4,.slice x5 x6 x7] 46)=w1' at *;generalize wr.heap.size=g at *;obtain⟨Af',cf',ef,hrd,_,hcf⟩:=hF1.reads;injection ef with ef1 _ ef3;subst ef1 ef3;obtain⟨b',o',ef4,hb',hfc⟩:=hrd.2 k (by rw[hrd.1];omega)
    have hfe:(fo (nms xs))[k]'(by rw[hrd.1];omega)=fk:=by
     have:=HFk.out;rw[zlh (by rw[hrd.1];omega)] at this;injection this
    rw[hfe] at hfc;subst ef4;clear hrd hfe;refine Ord.qaf.begin (fun W'=>W'.cell? ⟨g,0,none⟩=some (.string x0)/\W'.cell? ⟨g,1,none⟩=some (.int .i64 x1)/\W'.cell? ⟨g,2,none⟩=some (.int .i64 x2)/\W'.cell? ⟨g,3,none⟩=some (.int .i64 x3)/\W'.cell? ⟨g,4,none⟩=some (.int .i64 x4)/\W'.cell? ⟨g,5,none⟩=some (.slice x5 x6 x7)/\W'.cell? ⟨b',o'+k,none⟩=some (.string fk)) 60 (by kernel_rfl) ?_;have hS0:(fun W'=>W'.cell? ⟨g,0,none⟩=some (.string x0)/\W'.cell? ⟨g,1,none⟩=some (.int .i64 x1)/\W'.cell? ⟨g,2,none⟩=some (.int .i64 x2)/\W'.cell? ⟨g,3,none⟩=some (.int .i64 x3)/\W'.cell? ⟨g,4,none⟩=some (.int .i64 x4)/\W'.cell? ⟨g,5,none⟩=some (.slice x5 x6 x7)/\W'.cell? ⟨b',o'+k,none⟩=some (.string fk)) w1'.drew:=⟨zlc _ g 0 _ _ _ hrow,zlc _ g 1 _ _ _ hrow,zlc _ g 2 _ _ _ hrow,zlc _ g 3 _ _ _ hrow,zlc _ g 4 _ _ _ hrow,zlc _ g 5 _ _ _ hrow,hfc⟩;refine zjV 0 44 hS0 ?_;refine zjV 1 45 hS0 ?_;refine zjV 2 46 hS0 ?_;refine zjV 3 47 hS0 ?_;refine zjV 4 48 hS0 ?_;refine zjV 5 49 hS0 ?_;refine zjV 7 51 hS0 ?_;refine zjV 8 52 hS0 ?_;refine Ord.qaf.step 6 (by kernel_rfl) rfl (fun C hC=>?_);go_simp;go_at_call 173;refine (Hm.out _).mono ?_;rintro e w2' ⟨rfl,hb2⟩;have hg1:g<w1'.heap.size:=(zla.1 hrow).1;have hrow2:=(hb2.block g hg1).trans hrow;have hb2':Below w1'.heap.size w1' w2':=(Below.refl _ _).drew.trans hb2;have hfc2:=(qbi (o:=o'+k) (hb2'.block b' hb')).trans hfc;have hF2:=hF1.below hb2';have hT2:=hT1.below hb2';have hO2:=hO1.below hb2';have hb02:=hb1.trans (hb2'.mono hb1.size);have hb'2:b'<w2'.heap.size:=by have:=hb2'.size;omega
    have hS2:(fun W'=>W'.cell? ⟨g,0,none⟩=some (.string x0)/\W'.cell? ⟨g,1,none⟩=some (.int .i64 x1)/\W'.cell? ⟨g,2,none⟩=some (.int .i64 x2)/\W'.cell? ⟨g,3,none⟩=some (.int .i64 x3)/\W'.cell? ⟨g,4,none⟩=some (.int .i64 x4)/\W'.cell? ⟨g,5,none⟩=some (.slice x5 x6 x7)/\W'.cell? ⟨b',o'+k,none⟩=some (.string fk)) w2':=⟨zlc _ g 0 _ _ _ hrow2,zlc _ g 1 _ _ _ hrow2,zlc _ g 2 _ _ _ hrow2,zlc _ g 3 _ _ _ hrow2,zlc _ g 4 _ _ _ hrow2,zlc _ g 5 _ _ _ hrow2,hfc2⟩;go_wp2_with fail
    refine hC.out _ _ (fun _=>hS2) ?_;clear hC C hS0 hF1 hT1 hO1 hb1 hb2 hb2' hrow hfc;try simp only[zjA]
    refine Ord.qaf.step 9 (by kernel_rfl) rfl (fun C hC=>?_);go_simp;refine hC.out _ _ (fun _=>hS2) ?_;clear hC C;try simp only[zjA]
    have hrow3:=(zlz w2' (.cells #[.string fk,.int .i64 x1,.int .i64 x2,.int .i64 x3,.int .i64 x4,.int .i64 (x6:Int),.slice x5 x6 x7] 264) g (zla.1 hrow2).1).trans hrow2;have hfc3:=(qbi (o:=o'+k) (zlz w2' (.cells #[.string fk,.int .i64 x1,.int .i64 x2,.int .i64 x3,.int .i64 x4,.int .i64 (x6:Int),.slice x5 x6 x7] 264) b' hb'2)).trans hfc2;have hS3:(fun W'=>W'.cell? ⟨g,0,none⟩=some (.string x0)/\W'.cell? ⟨g,1,none⟩=some (.int .i64 x1)/\W'.cell? ⟨g,2,none⟩=some (.int .i64 x2)/\W'.cell? ⟨g,3,none⟩=some (.int .i64 x3)/\W'.cell? ⟨g,4,none⟩=some (.int .i64 x4)/\W'.cell? ⟨g,5,none⟩=some (.slice x5 x6 x7)/\W'.cell? ⟨b',o'+k,none⟩=some (.string fk)) (w2'.alloc (.cells #[.string fk,.int .i64 x1,.int .i64 x2,.int .i64 x3,.int .i64 x4,.int .i64 (x6:Int),.slice x5 x6 x7] 264)):=⟨zlc _ g 0 _ _ _ hrow3,zlc _ g 1 _ _ _ hrow3,zlc _ g 2 _ _ _ hrow3,zlc _ g 3 _ _ _ hrow3,zlc _ g 4 _ _ _ hrow3,zlc _ g 5 _ _ _ hrow3,hfc3⟩;have hF3:=hF2.alloc (.cells #[.string fk,.int .i64 x1,.int .i64 x2,.int .i64 x3,.int .i64 x4,.int .i64 (x6:Int),.slice x5 x6 x7] 264);have hT3:=hT2.alloc (.cells #[.string fk,.int .i64 x1,.int .i64 x2,.int .i64 x3,.int .i64 x4,.int .i64 (x6:Int),.slice x5 x6 x7] 264);have hO3:=hO2.alloc (.cells #[.string fk,.int .i64 x1,.int .i64 x2,.int .i64 x3,.int .i64 x4,.int .i64 (x6:Int),.slice x5 x6 x7] 264);have hb03:=hb02.alloc hb02.size (.cells #[.string fk,.int .i64 x1,.int .i64 x2,.int .i64 x3,.int .i64 x4,.int .i64 (x6:Int),.slice x5 x6 x7] 264);have hnew:=zld w2' (.cells #[.string fk,.int .i64 x1,.int .i64 x2,.int .i64 x3,.int .i64 x4,.int .i64 (x6:Int),.slice x5 x6 x7] 264);refine Ord.qaf.step 10 (by kernel_rfl) rfl (fun C hC=>?_);go_simp;refine hC.out _ _ (fun _=>hS3) ?_;clear hC C hS2 hF2 hT2 hO2 hb02 hrow2 hfc2 hb'2;try simp only[zjA]
    refine Ord.qaf.step 11 (by kernel_rfl) rfl (fun C hC=>?_);refine JC.qyy kP _ w.heap.size (.slice A1 (q+k) c1) (q+k) (pcl (pre++(qb5 xs).take k)) hO3 hb03.size ⟨w2'.heap.size,0,none⟩ 1 1 [.string fk,.int .i64 x1,.int .i64 x2,.int .i64 x3,.int .i64 x4,.int .i64 (x6:Int),.slice x5 x6 x7] rfl (by simp[Value.oneCell']) (World.news_of_block (cs:=#[.string fk,.int .i64 x1,.int .i64 x2,.int .i64 x3,.int .i64 x4,.int .i64 (x6:Int),.slice x5 x6 x7]) (t:=264) (fr:=(0,0)) hnew) (by omega) (by omega) (by rfl) _ _ (by rfl) (by rfl) (by rfl) ?_;intro v4 w4 ho4 hb4 hot4 _;obtain⟨A4,c4,rfl,_⟩:=ho4.reads;have hrow4:=hot4 _ _ hrow3 (fun _ _ e=>by simp at e);have hF4:=qbb hF3 hot4 (by decide);have hT4:=qai hT3 hot4 (by decide)
    have hfc4:w4.cell? ⟨b',o'+k,none⟩=some (.string fk):=by
     obtain⟨Af',cf',ef,hrd,_⟩:=hF4.reads;injection ef with ef1 _ ef3;subst ef1 ef3;obtain⟨b'',o'',ef4,_,hfc'⟩:=hrd.2 k (by rw[hrd.1];omega);cases ef4
     have hfe:(fo (nms xs))[k]'(by rw[hrd.1];omega)=fk:=by
      have:=HFk.out;rw[zlh (by rw[hrd.1];omega)] at this;injection this
     rw[hfe] at hfc';exact hfc'
    have hS4:(fun W'=>W'.cell? ⟨g,0,none⟩=some (.string x0)/\W'.cell? ⟨g,1,none⟩=some (.int .i64 x1)/\W'.cell? ⟨g,2,none⟩=some (.int .i64 x2)/\W'.cell? ⟨g,3,none⟩=some (.int .i64 x3)/\W'.cell? ⟨g,4,none⟩=some (.int .i64 x4)/\W'.cell? ⟨g,5,none⟩=some (.slice x5 x6 x7)/\W'.cell? ⟨b',o'+k,none⟩=some (.string fk)) w4:=⟨zlc _ g 0 _ _ _ hrow4,zlc _ g 1 _ _ _ hrow4,zlc _ g 2 _ _ _ hrow4,zlc _ g 3 _ _ _ hrow4,zlc _ g 4 _ _ _ hrow4,zlc _ g 5 _ _ _ hrow4,hfc4⟩;have hb04:=hb03.trans hb4;refine hC.out _ _ (fun _=>hS4) ?_;clear hC C hS3 hF3 hT3 hO3 hb03 hrow3 hfc3 hnew hot4 hb4;try simp only[zjA]
    refine Ord.qaf.step 12 (by kernel_rfl) rfl (fun C hC=>?_);go_simp;refine hC.out _ _ (fun _=>hS4) ?_;clear hC C;try simp only[zjA]
    refine Ord.qaf.done (by kernel_rfl) ?_ _;clear hS4 hrow4 hfc4;rw[<-HT.out,Nat.add_assoc] at ho4;go_wp2_with fail
    go_roundw
    all_goals first
     |exact⟨k+1,A4,c4,by go_num,by rw[Nat.add_assoc],by omega,ho4,hF4,hT4,hb04⟩
     |(simp[intOf];omega)
   ·obtain rfl:k=n:=by omega
    have hTk:(qb5 xs).take k=qb5 xs:=zlj (by rw[qb2 Hfit.out];have:=Hl.out;omega);rw[hTk] at hO;go_wp2_with fail
    go_ret
    exact Parts.fin HTn.out HPre.out hO hT hb
end JW
end Go.Proofs.YtlmolmohhpdhdaaGreatDoor
