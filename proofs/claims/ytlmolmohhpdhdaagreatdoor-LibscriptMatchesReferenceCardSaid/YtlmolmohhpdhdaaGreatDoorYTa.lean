/-
  libscript: lines and words
-/
import Derived.Test.YtlmolmohhpdhdaaGreatDoorYMj
set_option maxRecDepth 100000
set_option maxHeartbeats 16000000
set_option linter.all false
namespace Go.Proofs.YtlmolmohhpdhdaaGreatDoor
open Go.RowKit Go.Proofs Tryz
namespace Lsc
open JB
open JN (bts str qac qaw qa2)
def spl (c:UInt8):List UInt8->List UInt8->List (List UInt8)
 |cur,[]=>[cur]
 |cur,x::r=>if x=c then cur::spl c [] r else spl c (cur++[x]) r
theorem qm8 {c x:UInt8}{cur r:List UInt8}(h:x=c):spl c cur (x::r)=cur::spl c [] r:=by rw[spl,if_pos h]
theorem qiu {c x:UInt8}{cur r:List UInt8}(h:¬x=c):spl c cur (x::r)=spl c (cur++[x]) r:=by rw[spl,if_neg h]
theorem qrw (c:UInt8):∀(r cur:List UInt8),spl c cur r≠[]
 |[],_,h=>by simp[spl] at h
 |x::r,cur,h=>by
  rw[spl] at h;split at h
  ·cases h
  ·exact qrw c r _ h
theorem qm9 (c:UInt8):∀(r cur:List UInt8),(spl c cur r).length<=r.length+1
 |[],_=>by simp[spl]
 |x::r,cur=>by
  rw[spl];split
  ·rw[zlk,zlk];have:=qm9 c r [];omega
  ·have:=qm9 c r (cur++[x]);rw[zlk];omega
theorem Qfq (c:UInt8):∀(r cur:List UInt8),∀p∈spl c cur r,p.length<=cur.length+r.length
 |[],cur,p,h=>by
  simp only[spl,zlw] at h;subst h;simp
 |x::r,cur,p,h=>by
  rw[spl] at h;split at h
  ·rcases List.mem_cons.1 h with rfl|h
   ·simp
   ·have:=Qfq c r [] p h;simp at this |-;omega
  ·have:=Qfq c r (cur++[x]) p h;simp at this |-;omega
theorem qma (c:UInt8):∀(a b cur:List UInt8),spl c cur (a++c::b)=spl c cur a++spl c [] b
 |[],b,cur=>by rw[zlI,qm8 rfl,spl];rfl
 |x::r,b,cur=>by
  by_cases h:x=c
  ·rw[zlE,qm8 h,qm8 h,qma c r b,zlE]
  ·rw[zlE,qiu h,qiu h,qma c r b]
def qfj (c:UInt8)(s:ByteArray):List ByteArray:=(spl c [] (bts s)).map str
def qbm (s:ByteArray):List ByteArray:=if s.size=0 then [] else if (bts s).getLast?=some 10 then (qfj 10 s).dropLast else qfj 10 s
theorem Qfr (s:ByteArray)(i k:Nat):s.extract i k=str (((bts s).take k).drop i):=by
 apply JN.qyd;rw[qac];have h:=Lib.extract_toList s i k;rw[Lib.toList_data] at h;unfold bts;rw[h];simp[List.drop_take]
def StrsO (l:List ByteArray)(w:World)(e:Ending)(w':World):Prop:=
 ∃(A:Option Addr)(n c:Nat),e=.returned (.slice A n c)/\JS.Own w' w.heap.size (.slice A n c) n l/\Below w.heap.size w w'
theorem qrx (s:ByteArray)(c:UInt8)(w:World)(hs:s.size<=100000):
 Calls prog 22 #[.string s,.int .u8 (c.toNat:Int)] w (StrsO (qfj c s) w):=by
 have Hs:=hid hs;clear hs;go_enter func22,ntmps22;go_wp2_with fail
 go_loopw [5,6,7] (fun v f i W=>∃(k fr:Nat)(A:Option Addr)(n d:Nat)(done:List (List UInt8)),i=.int .i64 (k:Int)/\f=.int .i64 (fr:Int)/\v=.slice A n d/\fr<=k/\k<=s.size/\n<=k/\JS.Own W w.heap.size (.slice A n d) n (done.map str)/\Hid (spl c [] (bts s)=done++spl c (((bts s).take k).drop fr) ((bts s).drop k))/\Below w.heap.size w W) (fun _ _ i _=>s.size-(intOf i).toNat)
 case atStart=>exact⟨0,0,none,0,0,[],rfl,rfl,rfl,Nat.le_refl _,Nat.zero_le _,Nat.le_refl _,JS.Own.nil _ _,hid (by simp),Below.refl _ _⟩
 case round=>
  obtain⟨k,fr,A,n,d,done,rfl,rfl,rfl,hfk,hk,hnk,hO,hD,hb⟩:=hrel;by_cases hlt:k<s.size
  ·have hki:(k:Int)<(s.size:Int):=by omega
   have Hx:=hid (show (bts s).drop k=s[k]::(bts s).drop (k+1) from by
    rw[List.drop_eq_getElem_cons (by rw[qa2];exact hlt)];have h1:=JN.qkm s k hlt;rw[zlh (by rw[qa2];exact hlt)] at h1;injection h1 with h1;rw[h1])
   have Ht:=hid (show ((bts s).take (k+1)).drop fr=((bts s).take k).drop fr++[s[k]] from by
    have hl:k<(bts s).length:=by rw[qa2];exact hlt
    have h1:=JN.qkm s k hlt;rw[zlh hl] at h1;injection h1 with h1;rw[zlg hl,List.drop_append_of_le_length (by rw[zlu];omega),h1])
   by_cases hx:s[k]=c
   ·have hx2:((s[k].toNat:Int)==(c.toNat:Int))=true:=JN.qcg hx;have HD:=hid (hD.out.trans (by rw[Hx.out,qm8 hx]));have He:=hid (Qfr s fr k);have Hz:=hid (show ((bts s).take (k+1)).drop (k+1)=[] from zlD (by rw[zlu];omega));have hk2:k<=100000:=Nat.le_trans hk Hs.out;clear hx hD;go_wp2_with (at_builtin;go_must (refine JS.qa4 wr w.heap.size (.slice A n d) n (done.map str) (s.extract fr k) hO hb.size (by omega) rfl (.tmp 19) (.tmp 24) rfl rfl rfl ?_);intro v2 w2 hO2 hb2 _ _;obtain⟨A2,d2,rfl,_⟩:=hO2.reads)
    go_roundw
    case rel=>exact⟨k+1,k+1,A2,n+1,d2,done++[((bts s).take k).drop fr],by go_num,by go_num,rfl,Nat.le_refl _,by omega,by omega,by rw[He.out] at hO2;simpa using hO2,hid (by rw[Hz.out,HD.out,zln];rfl),hb.trans hb2⟩
    case measure=>simp[intOf];omega
   ·have hx2:((s[k].toNat:Int)==(c.toNat:Int))=false:=JN.qts hx;have HD:=hid (hD.out.trans (by rw[Hx.out,qiu hx,<-Ht.out]));have hk2:k<=100000:=Nat.le_trans hk Hs.out;clear hx hD;go_wp2_with fail
    go_roundw
    case rel=>exact⟨k+1,fr,A,n,d,done,by go_num,rfl,rfl,by omega,by omega,by omega,hO,HD,hb⟩
    case measure=>simp[intOf];omega
  ·obtain⟨m,hm⟩:∃m,s.size=m:=⟨_,rfl⟩;obtain rfl:k=m:=by omega
   have hki:¬(k:Int)<(k:Int):=by omega
   have He:=hid (Qfr s fr k);have HD:=hid (hD.out.trans (by rw[show (bts s).drop k=[] from zlD (by rw[qa2];omega),spl]));have hk2:k<=100000:=by have:=Hs.out;omega
   clear hD hk hlt;go_wp2_with (at_builtin;go_must (refine JS.qa4 wr w.heap.size (.slice A n d) n (done.map str) (s.extract fr k) hO hb.size (by omega) rfl (.tmp 28) (.tmp 32) rfl rfl rfl ?_);intro v2 w2 hO2 hb2 _ _;obtain⟨A2,d2,rfl,_⟩:=hO2.reads)
   go_ret
   exact⟨A2,n+1,d2,rfl,by unfold qfj;rw[HD.out,List.map_append];rw[He.out] at hO2;exact hO2,hb.trans hb2⟩
def StrsR (l:List ByteArray)(w:World)(e:Ending)(w':World):Prop:=
 ∃(A:Option Addr)(n c:Nat),e=.returned (.slice A n c)/\JS.Rd w' w'.heap.size A n l/\n<=c/\c<=maxLen/\Below w.heap.size w w'
theorem Qfs {w:World}{K n:Nat}{A:Option Addr}{l:List ByteArray}(h:JS.Rd w K A (n+1) l):JS.Rd w K A n l.dropLast:=
 ⟨by rw[List.length_dropLast,h.1];rfl,fun k hk=>by
  rw[List.length_dropLast] at hk;obtain⟨b,o,e,hb,hc⟩:=h.2 k (by omega);exact⟨b,o,e,hb,by rw[hc,List.getElem_dropLast]⟩⟩
theorem qiv (s:ByteArray)(w:World)(hs:s.size<=100000):
 Calls prog 15 #[.string s] w (StrsR (qbm s) w):=by
 by_cases h0:s.size=0
 ·have h1:((s.size:Int)==0)=true:=by rw[h0];rfl
  have HE:=hid (show qbm s=[] from if_pos h0);clear h0;go_enter func15,ntmps15;go_wp2_with fail
  go_ret
  exact⟨none,0,0,rfl,by rw[HE.out];exact JS.Rd.nil _ _ _,Nat.le_refl _,by unfold maxLen;omega,Below.refl _ _⟩
 ·obtain⟨m,hm⟩:∃m,s.size=m+1:=⟨s.size-1,by omega⟩;have h1:((s.size:Int)==0)=false:=by rw[zls];omega
  have HS:Hid (Calls prog 22 #[.string s,.int .u8 10] w (StrsO (qfj 10 s) w)):=hid (qrx s 10 w hs);have hlt:m<s.size:=by omega
  have hx:=JN.qkm s m hlt
  have Hl:=hid (show (bts s).getLast?=some s[m] from by
   rw[List.getLast?_eq_getElem?,qa2,hm];exact hx)
  have H0:=hid h0;have Hn:=hid (show qfj 10 s≠[] from fun h=>qrw 10 _ _ (List.map_eq_nil_iff.1 h));clear h0 hx;go_enter func15,ntmps15;go_wp2_with fail
  refine HS.out.mono ?_;rintro e w1 ⟨A,n,c,rfl,ho,hb⟩;obtain⟨_,_,e1,hr,hnc,hcm⟩:=ho.reads;injection e1 with e11 _ e13;subst e11 e13
  obtain⟨j,rfl⟩:∃j,n=j+1:=⟨n-1,by
   have h1:=hr.1;have h2:=List.length_pos_iff.2 Hn.out;omega⟩
  have hj:j<=100000:=by
   have h1:=hr.1;have h2:=qm9 10 (bts s) [];unfold qfj at h1;rw[zlB] at h1;rw[qa2] at h2;omega
  have Hr:=hid hr;have hsi:(s.size:Int)=(m:Int)+1:=by omega
  by_cases hx:s[m]=10
  ·have hx2:((s[m].toNat:Int)==10)=true:=by rw[hx];rfl
   have HE:=hid (show qbm s=(qfj 10 s).dropLast from by unfold qbm;rw[if_neg H0.out,Hl.out,hx,if_pos rfl]);clear hx HS ho hr;go_wp2_with fail
   go_ret
   exact⟨A,j,c,rfl,by rw[HE.out];exact Qfs Hr.out,by omega,hcm,hb⟩
  ·have hx2:((s[m].toNat:Int)==10)=false:=JN.qts (k:=10) hx;have HE:=hid (show qbm s=qfj 10 s from by unfold qbm;rw[if_neg H0.out,Hl.out,if_neg (fun h=>hx (by injection h))]);clear hx HS ho hr;go_wp2_with fail
   go_ret
   exact⟨A,j+1,c,rfl,by rw[HE.out];exact Hr.out,hnc,hcm,hb⟩
end Lsc
namespace Lsc
open JB
open JR (Mem)
def RdF (w:World)(K:Nat)(A:Option Addr)(n:Nat)(fs:List Mem):Prop:=
 fs.length=n/\∀k (h:k<fs.length),(∃b o:Nat,A=some ⟨b,o,none⟩/\b<K/\w.cell? ⟨b,o+k * 2,none⟩=some (.string fs[k].name)/\w.cell? ⟨b,o+k * 2+1,none⟩=some (.slice fs[k].ptr fs[k].len fs[k].cap))/\JB.Rd w K fs[k].ptr fs[k].len fs[k].data
theorem RdF.below {w w':World}{K n:Nat}{A:Option Addr}{fs:List Mem}(h:RdF w K A n fs)(hb:Below K w w'):RdF w' K A n fs:=
 ⟨h.1,fun k hk=>by
  obtain⟨⟨b,o,e,hl,h0,h1⟩,hd⟩:=h.2 k hk;exact⟨⟨b,o,e,hl,by rw[hb.cell (p:=⟨b,o+k * 2,none⟩) hl];exact h0,by rw[hb.cell (p:=⟨b,o+k * 2+1,none⟩) hl];exact h1⟩,hd.below hb⟩⟩
theorem RdF.more {w:World}{K K' n:Nat}{A:Option Addr}{fs:List Mem}(h:RdF w K A n fs)(hK:K<=K'):RdF w K' A n fs:=
 ⟨h.1,fun k hk=>by
  obtain⟨⟨b,o,e,hl,h0,h1⟩,hd⟩:=h.2 k hk;exact⟨⟨b,o,e,by omega,h0,h1⟩,hd.more hK⟩⟩
def qwz:List Mem->ByteArray->Option Nat
 |[],_=>none
 |x::r,s=>if x.name=s then some 0 else (qwz r s).map (·+1)
def qu2 (fs:List Mem)(s:ByteArray):Int:=match qwz fs s with|some k=>(k:Int)|none=> -1
theorem qtj:∀{xs:List Mem} {s:ByteArray} {k:Nat} (hk:k<xs.length),xs[k].name=s->(∀j (h:j<xs.length),j<k->xs[j].name≠s)->qwz xs s=some k
 |x::r,s,0,_,h,_=>by simp at h;simp[qwz,h]
 |x::r,s,k+1,hk,h,hn=>by
  have h0:x.name≠s:=hn 0 (by simp) (by omega);have:=qtj (xs:=r) (s:=s) (k:=k) (by simp at hk;omega) (by simpa using h) (fun j hj hjk=>hn (j+1) (by simp;omega) (by omega));rw[qwz,if_neg h0,this];rfl
theorem qq3:∀{xs:List Mem} {s:ByteArray},(∀j (h:j<xs.length),xs[j].name≠s)->qwz xs s=none
 |[],_,_=>rfl
 |x::r,s,hn=>by
  have h0:x.name≠s:=hn 0 (by simp);rw[qwz,if_neg h0,qq3 (xs:=r) (fun j hj=>hn (j+1) (by simp;omega))];rfl
theorem Qft (K:Nat)(A:Option Addr)(n c:Nat)(xs:List Mem)(s:ByteArray)(w:World)(h:RdF w K A n xs)(hK:K<=w.heap.size)(hn:n<=140737488355328):
 Calls prog 36 #[.slice A n c,.string s] w fun e w'=>e=.returned (.int .i64 (qu2 xs s))/\Below w.heap.size w w':=by
 have Hl:=hid h.1;go_enter func36,ntmps36;go_wp2_with fail
 go_loopw [5] (fun iv W=>∃k:Nat,iv=.int .i64 (k:Int)/\k<=n/\Hid (∀j (h:j<xs.length),j<k->xs[j].name≠s)/\Below w.heap.size w W) (fun iv _=>n-(intOf iv).toNat)
 case atStart=>exact⟨0,rfl,by omega,hid (fun j _ hj=>by omega),Below.refl _ _⟩
 case round=>
  obtain⟨k,rfl,hk,hN,hb⟩:=hrel;by_cases hlt:k<n
  ·have hkl:k<xs.length:=by have:=Hl.out;omega
   have hki:(k:Int)<(n:Int):=by omega
   obtain⟨⟨b,o,rfl,hbK,c0,_⟩,_⟩:=(h.below (hb.mono hK)).2 k hkl;by_cases hq:xs[k].name=s
   ·have hF:Hid (qu2 xs s=(k:Int)):=hid (by unfold qu2;rw[qtj hkl hq hN.out]);have hq1:(xs[k].name.toList==s.toList)=true:=by rw[hq];simp
    clear hq;generalize xs[k].name=nm at *;go_wp2_with fail
    go_ret
    exact⟨by rw[hF.out];rfl,hb⟩
   ·have hN2:Hid (∀j (h:j<xs.length),j<k+1->xs[j].name≠s):=hid fun j hj hjk=>by
     by_cases e:j=k
     ·subst e;exact hq
     ·exact hN.out j hj (by omega)
    have hq1:(xs[k].name.toList==s.toList)=false:=by rw[zls];exact fun e=>hq (JN.qdk.1 e)
    clear hq;generalize xs[k].name=nm at *;go_wp2_with fail
    go_roundw
    ·exact⟨k+1,by go_num,by omega,hN2,hb⟩
    ·simp[intOf];omega
  ·obtain rfl:k=n:=by omega
   have hki:¬(k:Int)<(k:Int):=by omega
   have hF:Hid (qu2 xs s= -1):=hid (by unfold qu2;rw[qq3 fun j hj=>hN.out j hj (by have:=Hl.out;omega)]);go_wp2_with fail
   go_ret
   exact⟨by rw[hF.out];rfl,hb⟩
def Qcn (x:Mem):Bool:=decide (x.len<=400)&&decide (x.name.size<=100)
def fewF (fs:List Mem)(s:ByteArray):Bool:=(fs.take 11).all Qcn&&(decide (fs.length<=10)&&(decide (s.size<=1000)&&decide ((qbm s).length<=12)))
theorem fewF_bad {fs:List Mem}{s:ByteArray}{k:Nat}(hk:k<fs.length)(h11:k<11)(h:Qcn fs[k]=false):fewF fs s=false:=by
 have h1:(fs.take 11).all Qcn=false:=by
  rw[List.all_eq_false];exact⟨fs[k],by rw[List.mem_take_iff_getElem];exact⟨k,by omega,rfl⟩,by rw[h];decide⟩
 unfold fewF;rw[h1];rfl
theorem fewF_end {fs:List Mem}{s:ByteArray}{k:Nat}(h:∀j (hj:j<fs.length),j<k->Qcn fs[j]=true)(hk:k=fs.length∨k=11):fewF fs s=(decide (fs.length<=10)&&(decide (s.size<=1000)&&decide ((qbm s).length<=12))):=by
 have h1:(fs.take 11).all Qcn=true:=by
  rw[List.all_eq_true];intro x hx;rw[List.mem_take_iff_getElem] at hx;obtain⟨j,hj,rfl⟩:=hx;exact h j (by omega) (by omega)
 unfold fewF;rw[h1];rfl
theorem rfew_any (K:Nat)(A:Option Addr)(n c:Nat)(xs:List Mem)(s:ByteArray)(w:World)(h:RdF w K A n xs)(hK:K<=w.heap.size):
 Calls prog 9 #[.slice A n c,.string s] w fun e w'=>e=.returned (.bool (fewF xs s))/\Below w.heap.size w w':=by
 have Hl:=hid h.1;go_enter func9,ntmps9;go_wp2_with fail
 go_loopw [5] (fun iv W=>∃k:Nat,iv=.int .i64 (k:Int)/\k<=n/\k<=11/\Hid (∀j (h:j<xs.length),j<k->Qcn xs[j]=true)/\Below w.heap.size w W) (fun iv _=>n-(intOf iv).toNat)
 case atStart=>exact⟨0,rfl,by omega,by omega,hid (fun j _ hj=>by omega),Below.refl _ _⟩
 case round=>
  obtain⟨k,rfl,hk,hk11,hN,hb⟩:=hrel;by_cases hgo:k<n/\k<11
  ·obtain⟨hlt,h11⟩:=hgo;have hkl:k<xs.length:=by have:=Hl.out;omega
   have hki:(k:Int)<(n:Int):=by omega
   have hki2:(k:Int)<=10:=by omega
   obtain⟨⟨b,o,rfl,hbK,c0,c1⟩,_⟩:=(h.below (hb.mono hK)).2 k hkl;cases hq:Qcn xs[k]
   ·have hF:=hid (fewF_bad (s:=s) hkl h11 hq);by_cases hz:xs[k].len<=400
    ·have hz2:100<xs[k].name.size:=by
      unfold Qcn at hq;rw[decide_eq_true hz,Bool.true_and,decide_eq_false_iff_not] at hq;omega
     have hz1:¬(400:Int)<(xs[k].len:Int):=by omega
     have hz3:(100:Int)<(xs[k].name.size:Int):=by omega
     clear hq hz hz2;generalize xs[k]=x at *;go_wp2_with fail
     go_ret
     exact⟨by rw[hF.out];rfl,hb⟩
    ·have hz1:(400:Int)<(xs[k].len:Int):=by omega
     clear hq hz;generalize xs[k]=x at *;go_wp2_with fail
     go_ret
     exact⟨by rw[hF.out];rfl,hb⟩
   ·have hN2:Hid (∀j (h:j<xs.length),j<k+1->Qcn xs[j]=true):=hid fun j hj hjk=>by
     by_cases e:j=k
     ·subst e;exact hq
     ·exact hN.out j hj (by omega)
    have hz1:¬(400:Int)<(xs[k].len:Int):=by unfold Qcn at hq;simp at hq;omega
    have hz3:¬(100:Int)<(xs[k].name.size:Int):=by unfold Qcn at hq;simp at hq;omega
    clear hq;generalize xs[k]=x at *;go_wp2_with fail
    go_roundw
    ·exact⟨k+1,by go_num,by omega,by omega,hN2,hb⟩
    ·simp[intOf];omega
  ·have hF:=hid (fewF_end (s:=s) hN.out (by have:=Hl.out;omega));have hxl:=Hl.out;by_cases h10:n<=10
   ·obtain rfl:k=n:=by omega
    have hki:¬(k:Int)<(k:Int):=by omega
    have hz0:(k:Int)<=10:=by omega
    by_cases hz:s.size<=1000
    ·have hz1:(s.size:Int)<=1000:=by omega
     have HL:=hid (qiv s wr (by omega));have HF:=hid (hF.out.trans (by rw[decide_eq_true (show xs.length<=10 by omega),decide_eq_true hz]));clear hF hz hgo;go_wp2_with fail
     refine HL.out.mono ?_;rintro e w2 ⟨A2,n2,c2,rfl,hr,_,_,hb2⟩;have HB:=hid (hb.trans (hb2.mono (by have:=hb.size;omega)));have Hn2:=hid hr.1;clear hr hb2 HL;by_cases hl:n2<=12
     ·have hl1:(n2:Int)<=12:=by omega
      have HE:=hid (HF.out.trans (decide_eq_true (by rw[Hn2.out];exact hl)));go_wp2_with fail
      go_ret
      exact⟨by rw[HE.out];rfl,HB.out⟩
     ·have hl1:¬(n2:Int)<=12:=by omega
      have HE:=hid (HF.out.trans (decide_eq_false (by rw[Hn2.out];exact hl)));go_wp2_with fail
      go_ret
      exact⟨by rw[HE.out];first|rfl|(simp;omega),HB.out⟩
    ·have hz1:¬(s.size:Int)<=1000:=by omega
     have HF:=hid (hF.out.trans (by rw[decide_eq_false hz,Bool.false_and,Bool.and_false]));clear hF hz hgo;go_wp2_with fail
     go_ret
     exact⟨by rw[HF.out];rfl,hb⟩
   ·have hz0:¬(n:Int)<=10:=by omega
    have HF:=hid (hF.out.trans (by rw[decide_eq_false (show ¬xs.length<=10 by omega),Bool.false_and]));by_cases hkn:k<n
    ·have hki:(k:Int)<(n:Int):=by omega
     have hki2:¬(k:Int)<=10:=by omega
     clear hF hgo;go_wp2_with fail
     go_ret
     exact⟨by rw[HF.out];rfl,hb⟩
    ·have hki:¬(k:Int)<(n:Int):=by omega
     clear hF hgo;go_wp2_with fail
     go_ret
     exact⟨by rw[HF.out];rfl,hb⟩
end Lsc
end Go.Proofs.YtlmolmohhpdhdaaGreatDoor
